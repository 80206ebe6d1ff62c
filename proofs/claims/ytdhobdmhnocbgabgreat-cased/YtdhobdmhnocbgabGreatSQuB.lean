/-
  Walks over zonekeep: a name that is asked for; a type that is asked for.
-/
/-
  Walks over zonekeep: a question.
-/
import Derived.Test.YtdhobdmhnocbgabGreatSRolH
import Derived.Test.YtdhobdmhnocbgabGreatSNwC
import Derived.Test.YtdhobdmhnocbgabGreatSSiW
import Derived.Test.YtdhobdmhnocbgabGreatSFiP
namespace Go.Proofs.YtdhobdmhnocbgabGreat
open Go.RowKit Zr

theorem origin_whole : wholeB originB = true := by kernel_rfl
theorem service_whole : wholeB serviceB = true := by kernel_rfl
def servB : ByteArray := ⟨#[4, 95, 116, 99, 112, 3, 115, 118, 99, 4, 109, 101, 115, 104, 0]⟩
theorem under_whole {s : ByteArray} (h1 : 1 ≤ s.size) (h2 : s.size ≤ 15) : wholeB (underP s) = true ∧ (underP s).size ≤ 40 := by
  have e : bt (one s.size ++ s) 0 = s.size := by
    rw [bt_append, if_pos (by show 0 < 1; omega)]
    show (UInt8.ofNat s.size).toNat = _
    rw [UInt8.toNat_ofNat_of_lt' (by simpa using (show s.size < 256 by omega))]
  have hs : (one s.size ++ s).size = 1 + s.size := by rw [ByteArray.size_append]; rfl
  have ho : originB.size = 10 := rfl
  refine ⟨whole_push (one s.size ++ s) originB (by omega) (by omega) (by omega) origin_whole (by omega), ?_⟩
  unfold underP
  rw [ByteArray.size_append]
  omega

/-- A name that is asked for. -/
def WantOf (w : World) (N R : Nat) (a : Option Addr) (n c : Nat) (K : List ByteArray) (e : Ending) (w' : World) : Prop := ∃ (s : ByteArray) (K' : List ByteArray), wholeB s = true ∧ e = .returned (.string s) ∧ Ro w' N R a n c K' ∧ K'.length ≤ K.length + 1 ∧ RFrame N w w'

theorem ten (k : Nat) (h : k < 10) : ∃ ty : Nat, (#[.int .i64 1, .int .i64 28, .int .i64 16, .int .i64 33, .int .i64 5, .int .i64 6, .int .i64 2, .int .i64 255, .int .i64 12, .int .i64 41] : Array Value)[k]? = some (.int .i64 (ty : Nat)) ∧ ty < 65536 := by
  match k, h with
  | 0, _ => exact ⟨1, rfl, by omega⟩
  | 1, _ => exact ⟨28, rfl, by omega⟩
  | 2, _ => exact ⟨16, rfl, by omega⟩
  | 3, _ => exact ⟨33, rfl, by omega⟩
  | 4, _ => exact ⟨5, rfl, by omega⟩
  | 5, _ => exact ⟨6, rfl, by omega⟩
  | 6, _ => exact ⟨2, rfl, by omega⟩
  | 7, _ => exact ⟨255, rfl, by omega⟩
  | 8, _ => exact ⟨12, rfl, by omega⟩
  | 9, _ => exact ⟨41, rfl, by omega⟩

set_option maxRecDepth 100000 in
set_option maxHeartbeats 2000000 in
theorem kind_k (N R : Nat) (a : Option Addr) (n c : Nat) (K : List ByteArray) (w : World) (h : Ro w N R a n c K) :
    Calls Tryz.prog 18 #[.pointer (some ⟨R, 0, none⟩)] w fun e w' => Below0 65536 e ∧ Ro w' N R a n c K ∧ RFrame N w w' := by
  have keyN := fun W (h : Ro W N R a n c K) (m : Nat) (v : Int) (h1 : 0 < m) (h2 : m ≤ 4294967296) (hv : v = m) => next_any N R a n c K m v W h h1 (by omega) hv
  have KN := hide keyN
  have hA := (Below.refl w.heap.size w).alloc (Nat.le_refl _) (.cells #[.int .i64 1, .int .i64 28, .int .i64 16, .int .i64 33, .int .i64 5, .int .i64 6, .int .i64 2, .int .i64 255, .int .i64 12, .int .i64 41] 3)
  have hL := heap_alloc_new w (.cells #[.int .i64 1, .int .i64 28, .int .i64 16, .int .i64 33, .int .i64 5, .int .i64 6, .int .i64 2, .int .i64 255, .int .i64 12, .int .i64 41] 3)
  have HR1 := hide (h.below hA)
  have HF1 := hide (RFrame.of_below (N := N) hA)
  have HL := hide hL
  clear keyN hA hL h
  go_enter Tryz.func18, Tryz.ntmps18
  go_wp2_with fail
  generalize w.alloc (.cells #[.int .i64 1, .int .i64 28, .int .i64 16, .int .i64 33, .int .i64 5, .int .i64 6, .int .i64 2, .int .i64 255, .int .i64 12, .int .i64 41] 3) = w1 at *
  refine (unhide KN _ (unhide HR1) 11 11 (by omega) (by omega) rfl).mono ?_
  rintro e w2 ⟨⟨k, hk, rfl⟩, hR2, hg2⟩
  have hf2 := (unhide HR1).next hg2
  have hL2 := hf2.kind _ _ _ _ (unhide HL) (by decide) (by decide) (by decide)
  have HR2 := hide hR2
  have HF2 := hide ((unhide HF1).trans hf2)
  clear hR2 hg2 hf2 HR1 HF1 HL
  by_cases ck : k < 10
  · obtain ⟨ty, hty, hty2⟩ := ten k ck
    have hcell := (cell_of_blk hL2 k).trans hty
    have lL := blk_lt hL2
    clear hty hL2
    go_wp2_with fail
    go_ret
    exact ⟨⟨ty, hty2, rfl⟩, unhide HR2, unhide HF2⟩
  · clear hL2
    go_wp2_with fail
    refine (unhide KN _ (unhide HR2) 65536 65536 (by omega) (by omega) rfl).mono ?_
    rintro e w3 ⟨⟨t, ht, rfl⟩, hR3, hg3⟩
    have hf3 := (unhide HR2).next hg3
    have HR3 := hide hR3
    have HF3 := hide ((unhide HF2).trans hf3)
    clear hR3 hg3 hf3
    go_wp2_with fail
    go_ret
    exact ⟨⟨t, ht, rfl⟩, unhide HR3, unhide HF3⟩

set_option maxRecDepth 100000 in
set_option maxHeartbeats 8000000 in
theorem wanted_k (N R : Nat) (a : Option Addr) (n c : Nat) (K : List ByteArray) (l : List Ev) (al : Option Addr) (cl : Nat) (w : World) (h : Ro w N R a n c K) (hK : K.length ≤ 800) (hrow : RowK N w al l) (hl : l.length ≤ 16777216) (hz : EvSized l) :
    Calls Tryz.prog 16 #[.pointer (some ⟨R, 0, none⟩), .slice al l.length cl] w fun e w' => WantOf w N R a n c K e w' := by
  have key8 := fun W (h : Ro W N R a n c K) => next_any N R a n c K 8 8 W h (by omega) (by omega) rfl
  have keyM := fun W (h : Ro W N R a n c K) => rolls_name N R a n c K W h (by omega)
  have keyL := fun W (h : Ro W N R a n c K) => label_any N R a n c K W h
  have keyN := fun W (h : Ro W N R a n c K) (hr : RowK N W al l) => node_k N R a n c K l al cl W h hr hl hz
  have K8 := hide key8
  have KM := hide keyM
  have KL := hide keyL
  have KN := hide keyN
  have HRow := hide hrow
  have H0 := hide h
  clear key8 keyM keyL keyN hrow h
  go_enter Tryz.func16, Tryz.ntmps16
  go_wp2_with fail
  refine (unhide K8 _ (unhide H0)).mono ?_
  rintro e w1 ⟨⟨k, hk, rfl⟩, hR1, hg1⟩
  have HF1 := hide ((unhide H0).next hg1)
  have HR1 := hide hR1
  have HRow1 := hide ((unhide HRow).call (unhide HF1))
  clear hR1 hg1 HRow H0
  have h8 : k = 0 ∨ k = 1 ∨ k = 2 ∨ k = 3 ∨ k = 4 ∨ k = 5 ∨ k = 6 ∨ k = 7 := by omega
  clear hk
  rcases h8 with rfl | rfl | rfl | rfl | rfl | rfl | rfl | rfl
  · go_wp2_with fail
    have hws : wholeB (⟨#[5, 95, 110, 111, 100, 101, 4, 95, 116, 99, 112, 3, 115, 118, 99, 4, 109, 101, 115, 104, 0]⟩ : ByteArray) = true := service_whole
    have hsz : (⟨#[5, 95, 110, 111, 100, 101, 4, 95, 116, 99, 112, 3, 115, 118, 99, 4, 109, 101, 115, 104, 0]⟩ : ByteArray).size ≤ 40 := by decide
    generalize (⟨#[5, 95, 110, 111, 100, 101, 4, 95, 116, 99, 112, 3, 115, 118, 99, 4, 109, 101, 115, 104, 0]⟩ : ByteArray) = S at *
    have HWs := hide hws
    clear hws
    refine (unhide K8 _ (unhide HR1)).mono ?_
    rintro e w2 ⟨⟨b, hb, rfl⟩, hR2, hg2⟩
    have HF2 := hide ((unhide HF1).trans ((unhide HR1).next hg2))
    have HR2 := hide hR2
    clear hR2 hg2
    by_cases cb : b = 0
    · subst cb
      go_wp2_with fail
      refine (unhide KL _ (unhide HR2)).mono ?_
      rintro e w3 ⟨⟨x, hx1, hx2, hx3, rfl⟩, hR3, hF3⟩
      have HW := hide (whole_push x S hx1 hx2 hx3 (unhide HWs) (by omega))
      have HF3 := hide ((unhide HF2).trans hF3)
      have HR3 := hide hR3
      have hxs : x.size ≤ 64 := by omega
      clear hR3 hF3 hx1 hx2 hx3
      go_wp2_with fail
      go_ret
      exact ⟨x ++ S, K, unhide HW, rfl, unhide HR3, by omega, unhide HF3⟩
    · have f : ((b : Int) == 0) = false := beq_eq_false_iff_ne.2 (by omega)
      go_wp2_with fail
      go_ret
      exact ⟨S, K, unhide HWs, rfl, unhide HR2, by omega, unhide HF2⟩
  · go_wp2_with fail
    have hws : wholeB ((⟨#[5, 95, 110, 111, 100, 101, 4, 95, 116, 99, 112, 3, 115, 118, 99, 4, 109, 101, 115, 104, 0]⟩ : ByteArray).extract 6 21) = true := by kernel_rfl
    have hsz : ((⟨#[5, 95, 110, 111, 100, 101, 4, 95, 116, 99, 112, 3, 115, 118, 99, 4, 109, 101, 115, 104, 0]⟩ : ByteArray).extract 6 21).size ≤ 40 := by rw [ByteArray.size_extract]; show min 21 21 - 6 ≤ 40; omega
    generalize (⟨#[5, 95, 110, 111, 100, 101, 4, 95, 116, 99, 112, 3, 115, 118, 99, 4, 109, 101, 115, 104, 0]⟩ : ByteArray).extract 6 21 = S at *
    have HWs := hide hws
    clear hws
    refine (unhide K8 _ (unhide HR1)).mono ?_
    rintro e w2 ⟨⟨b, hb, rfl⟩, hR2, hg2⟩
    have HF2 := hide ((unhide HF1).trans ((unhide HR1).next hg2))
    have HR2 := hide hR2
    clear hR2 hg2
    by_cases cb : b = 0
    · subst cb
      go_wp2_with fail
      refine (unhide KL _ (unhide HR2)).mono ?_
      rintro e w3 ⟨⟨x, hx1, hx2, hx3, rfl⟩, hR3, hF3⟩
      have HW := hide (whole_push x S hx1 hx2 hx3 (unhide HWs) (by omega))
      have HF3 := hide ((unhide HF2).trans hF3)
      have HR3 := hide hR3
      have hxs : x.size ≤ 64 := by omega
      clear hR3 hF3 hx1 hx2 hx3
      go_wp2_with fail
      go_ret
      exact ⟨x ++ S, K, unhide HW, rfl, unhide HR3, by omega, unhide HF3⟩
    · have f : ((b : Int) == 0) = false := beq_eq_false_iff_ne.2 (by omega)
      go_wp2_with fail
      go_ret
      exact ⟨S, K, unhide HWs, rfl, unhide HR2, by omega, unhide HF2⟩
  · go_wp2_with fail
    refine (unhide KM _ (unhide HR1)).mono ?_
    rintro e w2 ⟨s, hs, rfl, hR2, hF2⟩
    have HS := hide hs
    have HF2 := hide ((unhide HF1).trans hF2)
    have HR2 := hide hR2
    clear hs hF2 hR2
    go_wp2_with fail
    go_ret
    exact ⟨s, K ++ [s], unhide HS, rfl, unhide HR2, by rw [List.length_append]; simp, unhide HF2⟩
  · go_wp2_with fail
    refine (unhide KN _ (unhide HR1) (unhide HRow1)).mono ?_
    rintro e w2 ⟨⟨nd, rfl, hnd⟩, hR2, hF2⟩
    obtain ⟨hws, hsz⟩ := under_whole hnd.2.1 hnd.2.2
    have HF2 := hide ((unhide HF1).trans hF2)
    have HR2 := hide hR2
    have hh := fun (W : World) => host_k nd W (by have := hnd.2.2; omega)
    have HH := hide hh
    have HWs := hide hws
    clear hF2 hR2 hh hws
    go_wp2_with fail
    refine (unhide HH _).mono ?_
    rintro e w4 ⟨rfl, hb4⟩
    have HF4 := hide ((unhide HF2).trans (RFrame.of_below (N := N) hb4))
    have HR4 := hide ((unhide HR2).below hb4)
    clear hb4 HF2 HR2 HH hnd
    generalize underP nd = S at *
    go_wp2_with fail
    refine (unhide K8 _ (unhide HR4)).mono ?_
    rintro e w2 ⟨⟨b, hb, rfl⟩, hR2, hg2⟩
    have HF2 := hide ((unhide HF4).trans ((unhide HR4).next hg2))
    have HR2 := hide hR2
    clear hR2 hg2
    by_cases cb : b = 0
    · subst cb
      go_wp2_with fail
      refine (unhide KL _ (unhide HR2)).mono ?_
      rintro e w3 ⟨⟨x, hx1, hx2, hx3, rfl⟩, hR3, hF3⟩
      have HW := hide (whole_push x S hx1 hx2 hx3 (unhide HWs) (by omega))
      have HF3 := hide ((unhide HF2).trans hF3)
      have HR3 := hide hR3
      have hxs : x.size ≤ 64 := by omega
      clear hR3 hF3 hx1 hx2 hx3
      go_wp2_with fail
      go_ret
      exact ⟨x ++ S, K, unhide HW, rfl, unhide HR3, by omega, unhide HF3⟩
    · have f : ((b : Int) == 0) = false := beq_eq_false_iff_ne.2 (by omega)
      go_wp2_with fail
      go_ret
      exact ⟨S, K, unhide HWs, rfl, unhide HR2, by omega, unhide HF2⟩
  · go_wp2_with fail
    refine (unhide KN _ (unhide HR1) (unhide HRow1)).mono ?_
    rintro e w2 ⟨⟨nd, rfl, hnd⟩, hR2, hF2⟩
    obtain ⟨hws, hsz⟩ := under_whole hnd.2.1 hnd.2.2
    have HF2 := hide ((unhide HF1).trans hF2)
    have HR2 := hide hR2
    have hh := fun (W : World) => host_k nd W (by have := hnd.2.2; omega)
    have HH := hide hh
    have HWs := hide hws
    clear hF2 hR2 hh hws
    go_wp2_with fail
    refine (unhide HH _).mono ?_
    rintro e w4 ⟨rfl, hb4⟩
    have HF4 := hide ((unhide HF2).trans (RFrame.of_below (N := N) hb4))
    have HR4 := hide ((unhide HR2).below hb4)
    clear hb4 HF2 HR2 HH hnd
    generalize underP nd = S at *
    go_wp2_with fail
    refine (unhide K8 _ (unhide HR4)).mono ?_
    rintro e w2 ⟨⟨b, hb, rfl⟩, hR2, hg2⟩
    have HF2 := hide ((unhide HF4).trans ((unhide HR4).next hg2))
    have HR2 := hide hR2
    clear hR2 hg2
    by_cases cb : b = 0
    · subst cb
      go_wp2_with fail
      refine (unhide KL _ (unhide HR2)).mono ?_
      rintro e w3 ⟨⟨x, hx1, hx2, hx3, rfl⟩, hR3, hF3⟩
      have HW := hide (whole_push x S hx1 hx2 hx3 (unhide HWs) (by omega))
      have HF3 := hide ((unhide HF2).trans hF3)
      have HR3 := hide hR3
      have hxs : x.size ≤ 64 := by omega
      clear hR3 hF3 hx1 hx2 hx3
      go_wp2_with fail
      go_ret
      exact ⟨x ++ S, K, unhide HW, rfl, unhide HR3, by omega, unhide HF3⟩
    · have f : ((b : Int) == 0) = false := beq_eq_false_iff_ne.2 (by omega)
      go_wp2_with fail
      go_ret
      exact ⟨S, K, unhide HWs, rfl, unhide HR2, by omega, unhide HF2⟩
  · go_wp2_with fail
    refine (unhide KN _ (unhide HR1) (unhide HRow1)).mono ?_
    rintro e w2 ⟨⟨nd, rfl, hnd⟩, hR2, hF2⟩
    obtain ⟨hws, hsz⟩ := under_whole hnd.2.1 hnd.2.2
    have HF2 := hide ((unhide HF1).trans hF2)
    have HR2 := hide hR2
    have hh := fun (W : World) => host_k nd W (by have := hnd.2.2; omega)
    have HH := hide hh
    have HWs := hide hws
    clear hF2 hR2 hh hws
    go_wp2_with fail
    refine (unhide HH _).mono ?_
    rintro e w4 ⟨rfl, hb4⟩
    have HF4 := hide ((unhide HF2).trans (RFrame.of_below (N := N) hb4))
    have HR4 := hide ((unhide HR2).below hb4)
    clear hb4 HF2 HR2 HH hnd
    generalize underP nd = S at *
    go_wp2_with fail
    refine (unhide K8 _ (unhide HR4)).mono ?_
    rintro e w2 ⟨⟨b, hb, rfl⟩, hR2, hg2⟩
    have HF2 := hide ((unhide HF4).trans ((unhide HR4).next hg2))
    have HR2 := hide hR2
    clear hR2 hg2
    by_cases cb : b = 0
    · subst cb
      go_wp2_with fail
      refine (unhide KL _ (unhide HR2)).mono ?_
      rintro e w3 ⟨⟨x, hx1, hx2, hx3, rfl⟩, hR3, hF3⟩
      have HW := hide (whole_push x S hx1 hx2 hx3 (unhide HWs) (by omega))
      have HF3 := hide ((unhide HF2).trans hF3)
      have HR3 := hide hR3
      have hxs : x.size ≤ 64 := by omega
      clear hR3 hF3 hx1 hx2 hx3
      go_wp2_with fail
      go_ret
      exact ⟨x ++ S, K, unhide HW, rfl, unhide HR3, by omega, unhide HF3⟩
    · have f : ((b : Int) == 0) = false := beq_eq_false_iff_ne.2 (by omega)
      go_wp2_with fail
      go_ret
      exact ⟨S, K, unhide HWs, rfl, unhide HR2, by omega, unhide HF2⟩
  · go_wp2_with fail
    have hws : wholeB (⟨#[3, 115, 118, 99, 4, 109, 101, 115, 104, 0]⟩ : ByteArray) = true := origin_whole
    have hsz : (⟨#[3, 115, 118, 99, 4, 109, 101, 115, 104, 0]⟩ : ByteArray).size ≤ 40 := by decide
    generalize (⟨#[3, 115, 118, 99, 4, 109, 101, 115, 104, 0]⟩ : ByteArray) = S at *
    have HWs := hide hws
    clear hws
    refine (unhide K8 _ (unhide HR1)).mono ?_
    rintro e w2 ⟨⟨b, hb, rfl⟩, hR2, hg2⟩
    have HF2 := hide ((unhide HF1).trans ((unhide HR1).next hg2))
    have HR2 := hide hR2
    clear hR2 hg2
    by_cases cb : b = 0
    · subst cb
      go_wp2_with fail
      refine (unhide KL _ (unhide HR2)).mono ?_
      rintro e w3 ⟨⟨x, hx1, hx2, hx3, rfl⟩, hR3, hF3⟩
      have HW := hide (whole_push x S hx1 hx2 hx3 (unhide HWs) (by omega))
      have HF3 := hide ((unhide HF2).trans hF3)
      have HR3 := hide hR3
      have hxs : x.size ≤ 64 := by omega
      clear hR3 hF3 hx1 hx2 hx3
      go_wp2_with fail
      go_ret
      exact ⟨x ++ S, K, unhide HW, rfl, unhide HR3, by omega, unhide HF3⟩
    · have f : ((b : Int) == 0) = false := beq_eq_false_iff_ne.2 (by omega)
      go_wp2_with fail
      go_ret
      exact ⟨S, K, unhide HWs, rfl, unhide HR2, by omega, unhide HF2⟩
  · go_wp2_with fail
    have hws : wholeB (⟨#[3, 115, 118, 99, 4, 109, 101, 115, 104, 0]⟩ : ByteArray) = true := origin_whole
    have hsz : (⟨#[3, 115, 118, 99, 4, 109, 101, 115, 104, 0]⟩ : ByteArray).size ≤ 40 := by decide
    generalize (⟨#[3, 115, 118, 99, 4, 109, 101, 115, 104, 0]⟩ : ByteArray) = S at *
    have HWs := hide hws
    clear hws
    refine (unhide K8 _ (unhide HR1)).mono ?_
    rintro e w2 ⟨⟨b, hb, rfl⟩, hR2, hg2⟩
    have HF2 := hide ((unhide HF1).trans ((unhide HR1).next hg2))
    have HR2 := hide hR2
    clear hR2 hg2
    by_cases cb : b = 0
    · subst cb
      go_wp2_with fail
      refine (unhide KL _ (unhide HR2)).mono ?_
      rintro e w3 ⟨⟨x, hx1, hx2, hx3, rfl⟩, hR3, hF3⟩
      have HW := hide (whole_push x S hx1 hx2 hx3 (unhide HWs) (by omega))
      have HF3 := hide ((unhide HF2).trans hF3)
      have HR3 := hide hR3
      have hxs : x.size ≤ 64 := by omega
      clear hR3 hF3 hx1 hx2 hx3
      go_wp2_with fail
      go_ret
      exact ⟨x ++ S, K, unhide HW, rfl, unhide HR3, by omega, unhide HF3⟩
    · have f : ((b : Int) == 0) = false := beq_eq_false_iff_ne.2 (by omega)
      go_wp2_with fail
      go_ret
      exact ⟨S, K, unhide HWs, rfl, unhide HR2, by omega, unhide HF2⟩

end Go.Proofs.YtdhobdmhnocbgabGreat

namespace Go.Proofs.YtdhobdmhnocbgabGreat
open Go.RowKit Zr

/-- Where a message is being made: its block behind the result's, the rolls, what was there before. -/
structure MesAt (w0 : World) (N R : Nat) (a : Option Addr) (n c : Nat) (K : List ByteArray) (P : Nat) (ps cs : Array Value) (w : World) : Prop where
  ro : Ro w N R a n c K
  pa : w.heap[P]? = some (.cells ps 27 (0, 0))
  xa : w.heap[P + 1]? = some (.cells cs 27 (0, 0))
  fr : RFrame N w0 w
  old : w0.heap.size ≤ P
  low : N ≤ P

section
variable {w0 w w1 : World} {N R : Nat} {a : Option Addr} {n c : Nat} {K K' : List ByteArray} {P : Nat} {ps cs : Array Value}
theorem MesAt.call (h : MesAt w0 N R a n c K P ps cs w) (hr : Ro w1 N R a n c K') (hf : RFrame N w w1) : MesAt w0 N R a n c K' P ps cs w1 :=
  ⟨hr, hf.kind _ _ _ _ h.pa (by decide) (by decide) (by decide), hf.kind _ _ _ _ h.xa (by decide) (by decide) (by decide), h.fr.trans hf, h.old, h.low⟩
theorem MesAt.set (h : MesAt w0 N R a n c K P ps cs w) (o : Nat) (v : Value) : MesAt w0 N R a n c K P ps (cs.setIfInBounds o v) (w.setCell ⟨P + 1, o, none⟩ v) :=
  ⟨h.ro.set h.xa (by decide) (by decide) (by have := h.low; omega) o v, (blk_set_other (by omega) _ _).trans h.pa, blk_set h.xa o v, h.fr.set (by have := h.old; omega) o v, h.old, h.low⟩
theorem MesAt.setP' (h : MesAt w0 N R a n c K P ps cs w) (o : Nat) (v : Value) : MesAt w0 N R a n c K P (ps.setIfInBounds o v) cs (w.setCell ⟨P, o, none⟩ v) :=
  ⟨h.ro.set h.pa (by decide) (by decide) h.low o v, blk_set h.pa o v, (blk_set_other (by omega) _ _).trans h.xa, h.fr.set h.old o v, h.old, h.low⟩
theorem MesAt.alloc (h : MesAt w0 N R a n c K P ps cs w) (O : Obj) : MesAt w0 N R a n c K P ps cs (w.alloc O) :=
  have hA := (Below.refl w.heap.size w).alloc (Nat.le_refl _) O
  ⟨h.ro.below hA, (hA.block _ (blk_lt h.pa)).trans h.pa, (hA.block _ (blk_lt h.xa)).trans h.xa, h.fr.trans (RFrame.of_below hA), h.old, h.low⟩
end
theorem mes_start {w : World} {N R : Nat} {a : Option Addr} {n c : Nat} {K : List ByteArray} (h : Ro w N R a n c K) (A B : Array Value) : MesAt w N R a n c K w.heap.size A B ((w.alloc (.cells A 27)).alloc (.cells B 27)) := by
  have hl := h.lt
  have hA := (Below.refl w.heap.size w).alloc (Nat.le_refl _) (.cells A 27)
  have hB := hA.alloc (by simp) (.cells B 27)
  exact ⟨h.below hB, (two_new w _ _).1, (two_new w _ _).2, RFrame.of_below hB, Nat.le_refl _, by omega⟩

/-- What a question is. -/
structure QueM (m : MI) : Prop where
  ok : msgOk m
  fl : m.flags < 32768
  q2 : m.q.length ≤ 2
  a0 : m.a = []
  u0 : m.u = []
  x1 : m.x = [] ∨ ∃ o, m.x = [o] ∧ o.ty = 41 ∧ 0 ≤ o.cl ∧ o.data.size ≤ 600

/-- The same, with the questions and the extra records in it. -/
structure MqAt (w0 : World) (N R : Nat) (a : Option Addr) (n c : Nat) (K : List ByteArray) (P : Nat) (id fl : Int) (aq : Option Addr) (j cq : Nat) (lq : List QI) (ax : Option Addr) (i cx : Nat) (lx : List RI) (w : World) : Prop where
  b : MesAt w0 N R a n c K P #[.int .i64 0, .int .i64 0, .slice none 0 0, .slice none 0 0, .slice none 0 0, .slice none 0 0] #[.int .i64 id, .int .i64 fl, .slice aq j cq, .slice none 0 0, .slice none 0 0, .slice ax i cx] w
  o : w.ownsRow P 39 3 (.slice aq j cq) j (qcI lq)
  x : w.ownsRow P 33 5 (.slice ax i cx) i (rcI lx)

section
variable {w0 w w1 : World} {N R : Nat} {a : Option Addr} {n c : Nat} {K K' : List ByteArray} {P : Nat} {id fl : Int} {aq : Option Addr} {j cq : Nat} {lq : List QI} {ax : Option Addr} {i cx : Nat} {lx : List RI}
theorem MqAt.call (h : MqAt w0 N R a n c K P id fl aq j cq lq ax i cx lx w) (hr : Ro w1 N R a n c K') (hf : RFrame N w w1) : MqAt w0 N R a n c K' P id fl aq j cq lq ax i cx lx w1 :=
  ⟨h.b.call hr hf, hf.owns h.o (by decide) (by decide) (by decide), hf.owns h.x (by decide) (by decide) (by decide)⟩
theorem MqAt.alloc (h : MqAt w0 N R a n c K P id fl aq j cq lq ax i cx lx w) (O : Obj) : MqAt w0 N R a n c K P id fl aq j cq lq ax i cx lx (w.alloc O) :=
  ⟨h.b.alloc O, h.o.alloc O, h.x.alloc O⟩
/-- A block of another kind, new since the beginning, is written. -/
theorem MqAt.other (h : MqAt w0 N R a n c K P id fl aq j cq lq ax i cx lx w) {X : Nat} {cs : Array Value} {t : TypeId} (hX : w.heap[X]? = some (.cells cs t (0, 0))) (h1 : X ≠ P) (h2 : X ≠ P + 1) (h3 : w0.heap.size ≤ X) (h4 : N ≤ X) (k1 : 9 ≠ t) (k2 : 45 ≠ t) (o : Nat) (v : Value)
    (ko : ∀ g, (Value.slice aq j cq).ownBlock = some g → g ≠ X) (kx : ∀ g, (Value.slice ax i cx).ownBlock = some g → g ≠ X) : MqAt w0 N R a n c K P id fl aq j cq lq ax i cx lx (w.setCell ⟨X, o, none⟩ v) := by
  have keep : ∀ {e : TypeId} {size : Nat} {u : Value} {m : Nat} {xs : List Value}, w.ownsRow P e size u m xs → (∀ g, u.ownBlock = some g → g ≠ X) → (w.setCell ⟨X, o, none⟩ v).ownsRow P e size u m xs := by
    intro e size u m xs hu hg
    refine ⟨hu.1, ?_⟩
    rcases hu.2 with q | ⟨g, cap, cur, q1, q2, q3, q4⟩
    · exact .inl q
    · exact .inr ⟨g, cap, cur, q1, q2, (blk_set_other (hg g (by rw [q1]; rfl)) _ _).trans q3, q4⟩
  exact ⟨⟨h.b.ro.set hX k1 k2 h4 o v, (blk_set_other (Ne.symm h1) _ _).trans h.b.pa, (blk_set_other (Ne.symm h2) _ _).trans h.b.xa, h.b.fr.set h3 o v, h.b.old, h.b.low⟩, keep h.o ko, keep h.x kx⟩
theorem MqAt.id' (h : MqAt w0 N R a n c K P id fl aq j cq lq ax i cx lx w) (v : Int) : MqAt w0 N R a n c K P v fl aq j cq lq ax i cx lx (w.setCell ⟨P + 1, 0, none⟩ (.int .i64 v)) :=
  ⟨h.b.set 0 _, owns_set_kind h.o h.b.xa (by decide) 0 _, owns_set_kind h.x h.b.xa (by decide) 0 _⟩
theorem MesAt.app {ps cs : Array Value} (h : MesAt w0 N R a n c K P ps cs w) {e : TypeId} {size m : Nat} {v : Value} {xs : List Value} (hown : w.ownsRow P e size v m xs) (hg : w.grownBy w1 v.ownBlock) (h1 : e ≠ 9) (h2 : e ≠ 45) (h3 : e ≠ 27) : MesAt w0 N R a n c K P ps cs w1 := by
  refine ⟨h.ro.frame (owns_lower h.low hown) hg h1 h2, blk_kind hown hg h.pa h3, blk_kind hown hg h.xa h3, ?_, h.old, h.low⟩
  have hne : ∀ k, k < w0.heap.size → some k ≠ v.ownBlock := fun k hk e => by
    have := (hown.lt k e.symm).1
    have := h.old
    omega
  have hf := h.fr
  exact ⟨hg.os.trans hf.os, hg.tape.trans hf.tape, hg.output.trans hf.output, Nat.le_trans hf.size hg.size, fun k k1 k2 => (hg.block k (Nat.lt_of_lt_of_le k2 hf.size) (hne k k2)).trans (hf.low k k1 k2), fun k cs t fr k1 k2 k3 k4 => (hg.block k (Nat.lt_of_lt_of_le (blk_lt k1) hf.size) (hne k (blk_lt k1))).trans (hf.kind k cs t fr k1 k2 k3 k4)⟩
theorem MqAt.appq (h : MqAt w0 N R a n c K P id fl aq j cq lq ax i cx lx w) {q : QI} {a1 : Option Addr} {e1 : Nat} (ho : w1.ownsRow P 39 3 (.slice a1 (j + 1) e1) (j + 1) (qcI lq ++ [.string q.name, .int .i64 q.ty, .int .i64 q.cl])) (hg : w.grownBy w1 (Value.slice aq j cq).ownBlock) :
    MqAt w0 N R a n c K P id fl a1 (j + 1) e1 (lq ++ [q]) ax i cx lx (w1.setCell ⟨P + 1, 2, none⟩ (.slice a1 (j + 1) e1)) := by
  have hb := h.b.app h.o hg (by decide) (by decide) (by decide)
  have e : qcI (lq ++ [q]) = qcI lq ++ [.string q.name, .int .i64 q.ty, .int .i64 q.cl] := by unfold qcI; rw [List.flatMap_append]; rfl
  rw [← e] at ho
  exact ⟨hb.set 2 _, owns_set_kind ho hb.xa (by decide) 2 _, owns_set_kind (owns_kind h.o hg h.x (by decide)) hb.xa (by decide) 2 _⟩
theorem MqAt.appx (h : MqAt w0 N R a n c K P id fl aq j cq lq ax i cx lx w) {x : RI} {a1 : Option Addr} {e1 : Nat} (ho : w1.ownsRow P 33 5 (.slice a1 (i + 1) e1) (i + 1) (rcI lx ++ [.string x.name, .int .i64 x.ty, .int .i64 x.cl, .int .i64 x.ttl, .string x.data])) (hg : w.grownBy w1 (Value.slice ax i cx).ownBlock) :
    MqAt w0 N R a n c K P id fl aq j cq lq a1 (i + 1) e1 (lx ++ [x]) (w1.setCell ⟨P + 1, 5, none⟩ (.slice a1 (i + 1) e1)) := by
  have hb := h.b.app h.x hg (by decide) (by decide) (by decide)
  rw [← rcI_more] at ho
  exact ⟨hb.set 5 _, owns_set_kind (owns_kind h.x hg h.o (by decide)) hb.xa (by decide) 5 _, owns_set_kind ho hb.xa (by decide) 5 _⟩
theorem MqAt.fl' (h : MqAt w0 N R a n c K P id fl aq j cq lq ax i cx lx w) (v : Int) : MqAt w0 N R a n c K P id v aq j cq lq ax i cx lx (w.setCell ⟨P + 1, 1, none⟩ (.int .i64 v)) :=
  ⟨h.b.set 1 _, owns_set_kind h.o h.b.xa (by decide) 1 _, owns_set_kind h.x h.b.xa (by decide) 1 _⟩
end

/-- The lists of a message lie from the block P on. -/
def HighM (P : Nat) (v : Value) : Prop := ∃ vs : Array Value, v = .agg vs ∧ ∀ (i : Nat) (u : Value) (g : Nat), vs[i]? = some u → u.ownBlock = some g → P ≤ g
theorem row_keep {w : World} {N X : Nat} {a : Option Addr} {xs : List Value} (h : RowAt w N a xs) (hh : ∀ b o, a = some ⟨b, o, none⟩ → b ≠ X) (j : Nat) (u : Value) : RowAt (w.setCell ⟨X, j, none⟩ u) N a xs := by
  intro hx
  obtain ⟨b, o, h1, h2, h3⟩ := h hx
  refine ⟨b, o, h1, h2, fun k y hy => ?_⟩
  rw [← h3 k y hy]
  have e := blk_set_other (w := w) (hh b o h1) j u
  simp only [World.cell?, e]
theorem MsgAt.keepSet {w : World} {N X P : Nat} {v : Value} {m : MI} (h : MsgAt w N v m) (hv : HighM P v) (hX : X < P) (j : Nat) (u : Value) : MsgAt (w.setCell ⟨X, j, none⟩ u) N v m := by
  obtain ⟨a1, c1, a2, c2, a3, c3, a4, c4, rfl, r1, r2, r3, r4, z⟩ := h
  obtain ⟨vs, hvs, hg⟩ := hv
  cases hvs
  have ne : ∀ (i : Nat) (a : Option Addr) (k c : Nat), (#[.int .i64 m.id, .int .i64 m.flags, .slice a1 m.q.length c1, .slice a2 m.a.length c2, .slice a3 m.u.length c3, .slice a4 m.x.length c4] : Array Value)[i]? = some (Value.slice a k c) → ∀ b o, a = some ⟨b, o, none⟩ → b ≠ X := by
    intro i a k c hi b o ha
    have := hg i _ b hi (by rw [ha]; rfl)
    omega
  exact ⟨a1, c1, a2, c2, a3, c3, a4, c4, rfl, row_keep r1 (ne 2 _ _ _ rfl) j u, row_keep r2 (ne 3 _ _ _ rfl) j u, row_keep r3 (ne 4 _ _ _ rfl) j u, row_keep r4 (ne 5 _ _ _ rfl) j u, z⟩

section
variable {w0 w w1 : World} {N R : Nat} {a : Option Addr} {n c : Nat} {K K' : List ByteArray} {P : Nat} {id fl : Int} {aq : Option Addr} {j cq : Nat} {lq : List QI} {ax : Option Addr} {i cx : Nat} {lx : List RI}
/-- The message, laid into the result's box. -/
theorem MqAt.out (h : MqAt w0 N R a n c K P id fl aq j cq lq ax i cx lx w) (hj : lq.length = j) (hi : lx.length = i) (hok : msgOk ⟨id, fl, lq, [], [], lx⟩) :
    MsgAt ((((((w.setCell ⟨P, 0, none⟩ (.int .i64 id)).setCell ⟨P, 1, none⟩ (.int .i64 fl)).setCell ⟨P, 2, none⟩ (.slice aq j cq)).setCell ⟨P, 3, none⟩ (.slice none 0 0)).setCell ⟨P, 4, none⟩ (.slice none 0 0)).setCell ⟨P, 5, none⟩ (.slice ax i cx)) ((((((w.setCell ⟨P, 0, none⟩ (.int .i64 id)).setCell ⟨P, 1, none⟩ (.int .i64 fl)).setCell ⟨P, 2, none⟩ (.slice aq j cq)).setCell ⟨P, 3, none⟩ (.slice none 0 0)).setCell ⟨P, 4, none⟩ (.slice none 0 0)).setCell ⟨P, 5, none⟩ (.slice ax i cx)).heap.size (.agg #[.int .i64 id, .int .i64 fl, .slice aq j cq, .slice none 0 0, .slice none 0 0, .slice ax i cx]) ⟨id, fl, lq, [], [], lx⟩ ∧
    RFrame N w0 ((((((w.setCell ⟨P, 0, none⟩ (.int .i64 id)).setCell ⟨P, 1, none⟩ (.int .i64 fl)).setCell ⟨P, 2, none⟩ (.slice aq j cq)).setCell ⟨P, 3, none⟩ (.slice none 0 0)).setCell ⟨P, 4, none⟩ (.slice none 0 0)).setCell ⟨P, 5, none⟩ (.slice ax i cx)) ∧ HighM w0.heap.size (.agg #[.int .i64 id, .int .i64 fl, .slice aq j cq, .slice none 0 0, .slice none 0 0, .slice ax i cx]) := by
  obtain ⟨z1, z2, z3, z4⟩ := msgOk_sized hok
  have o1 := owns_store6 h.o h.b.pa (by decide) (.int .i64 id) (.int .i64 fl) (.slice aq j cq) (.slice none 0 0) (.slice none 0 0) (.slice ax i cx)
  have o2 := owns_store6 h.x h.b.pa (by decide) (.int .i64 id) (.int .i64 fl) (.slice aq j cq) (.slice none 0 0) (.slice none 0 0) (.slice ax i cx)
  subst hj
  subst hi
  have c1 : lq.length ≤ cq := by
    rcases o1.2 with ⟨_, q⟩ | ⟨g, cap, cur, q1, _, _, q4, _⟩
    · omega
    · cases q1; exact q4
  refine ⟨⟨aq, cq, none, 0, none, 0, ax, cx, rfl, owns_rowAt o1, fun q => absurd rfl q, fun q => absurd rfl q, owns_rowAt o2, z1, z2, z3, z4, c1, Nat.le_refl _, Nat.le_refl _, (owns_recRow o2).2⟩, ?_, ?_⟩
  rotate_left
  · refine ⟨_, rfl, fun k u g hk hu => ?_⟩
    have ho := h.b.old
    match k with
    | 0 => cases hk; cases hu
    | 1 => cases hk; cases hu
    | 2 => cases hk; have := (o1.lt g hu).1; omega
    | 3 => cases hk; cases hu
    | 4 => cases hk; cases hu
    | 5 => cases hk; have := (o2.lt g hu).1; omega
    | k + 6 => simp at hk
  exact (((((h.b.fr.set h.b.old 0 _).set h.b.old 1 _).set h.b.old 2 _).set h.b.old 3 _).set h.b.old 4 _).set h.b.old 5 _
end

/-- A question that comes out. -/
def QueOut (w : World) (N : Nat) (e : Ending) (w' : World) : Prop := ∃ m v, e = .returned v ∧ QueM m ∧ MsgAt w' w'.heap.size v m ∧ RFrame N w w' ∧ HighM w.heap.size v

set_option maxRecDepth 100000 in
set_option maxHeartbeats 8000000 in
theorem question_k (N R : Nat) (a : Option Addr) (n c : Nat) (K : List ByteArray) (l : List Ev) (al : Option Addr) (cl : Nat) (w : World) (h : Ro w N R a n c K) (hK : K.length ≤ 700) (hrow : RowK N w al l) (hl : l.length ≤ 16777216) (hz : EvSized l) :
    Calls Tryz.prog 30 #[.pointer (some ⟨R, 0, none⟩), .slice al l.length cl] w fun e w' => QueOut w N e w' := by
  have keyN := fun (K : List ByteArray) W (h : Ro W N R a n c K) (m : Nat) (v : Int) (h1 : 0 < m) (h2 : m ≤ 4294967296) (hv : v = m) => next_any N R a n c K m v W h h1 (by omega) hv
  have KN := hide keyN
  clear keyN
  obtain ⟨i0, hi, hz0, hz1, hz2⟩ := info_parts Tryz.info33
  have Hi := hide hi
  have Hz0 := hide hz0
  have Hz1 := hide hz1
  have Hz2 := hide hz2
  clear hi hz0 hz1 hz2
  obtain ⟨j0, ji, jz0, jz1, jz2⟩ := info_parts Tryz.info39
  have Ji := hide ji
  have Jz0 := hide jz0
  have Jz1 := hide jz1
  have Jz2 := hide jz2
  clear ji jz0 jz1 jz2
  have A0 := mes_start h #[.int .i64 0, .int .i64 0, .slice none 0 0, .slice none 0 0, .slice none 0 0, .slice none 0 0] #[.int .i64 0, .int .i64 0, .slice none 0 0, .slice none 0 0, .slice none 0 0, .slice none 0 0]
  have HRow := hide hrow
  clear h hrow
  generalize hP : w.heap.size = P at *
  go_enter Tryz.func30, Tryz.ntmps30
  go_wp2_with fail
  have M0 : MqAt w N R a n c K P 0 0 none 0 0 [] none 0 0 [] ((w.alloc (.cells #[.int .i64 0, .int .i64 0, .slice none 0 0, .slice none 0 0, .slice none 0 0, .slice none 0 0] 27)).alloc (.cells #[.int .i64 0, .int .i64 0, .slice none 0 0, .slice none 0 0, .slice none 0 0, .slice none 0 0] 27)) := ⟨A0, World.ownsRow_nil _ _ _ _, World.ownsRow_nil _ _ _ _⟩
  generalize (w.alloc (.cells #[.int .i64 0, .int .i64 0, .slice none 0 0, .slice none 0 0, .slice none 0 0, .slice none 0 0] 27)).alloc (.cells #[.int .i64 0, .int .i64 0, .slice none 0 0, .slice none 0 0, .slice none 0 0, .slice none 0 0] 27) = w0 at *
  clear A0
  refine (unhide KN K _ M0.b.ro 65536 65536 (by omega) (by omega) rfl).mono ?_
  rintro e w1 ⟨⟨id, hid, rfl⟩, hR1, hg1⟩
  have B1 := M0.call hR1 (M0.b.ro.next hg1)
  have M1 := B1.id' (id : Nat)
  obtain ⟨⟨x0, x1, x2, x3, x4, x5⟩, y0, y1, y2, y3, y4, y5⟩ := cells6 B1.b.xa
  have l1 := blk_lt B1.b.xa
  clear hR1 hg1 B1 M0
  go_wp2_with fail
  generalize w1.setCell ⟨P + 1, 0, none⟩ (.int .i64 (id : Nat)) = w1' at *
  clear x0 x1 x2 x3 x4 x5 y0 y1 y2 y3 y4 y5 l1
  refine (unhide KN K _ M1.b.ro 12 12 (by omega) (by omega) rfl).mono ?_
  rintro e w2 ⟨⟨odd, hodd, rfl⟩, hR1, hg1⟩
  have M2 := M1.call hR1 (M1.b.ro.next hg1)
  clear hR1 hg1 M1
  go_wp2_with fail
  refine (unhide KN K _ M2.b.ro 2 2 (by omega) (by omega) rfl).mono ?_
  rintro e w3 ⟨⟨f0, hf0, rfl⟩, hR1, hg1⟩
  have B1 := M2.call hR1 (M2.b.ro.next hg1)
  have M3 := B1.fl' (256 * (f0 : Int))
  obtain ⟨⟨x0, x1, x2, x3, x4, x5⟩, y0, y1, y2, y3, y4, y5⟩ := cells6 B1.b.xa
  have l1 := blk_lt B1.b.xa
  clear hR1 hg1 B1 M2
  go_upto_if 22 with fail
  generalize w3.setCell ⟨P + 1, 1, none⟩ (.int .i64 (256 * (f0 : Int))) = w3' at *
  clear x0 x1 x2 x3 x4 x5 y0 y1 y2 y3 y4 y5 l1
  have HM3 := hide M3
  clear M3
  go_cut [6] (fun v w' => v = .int .i64 (odd : Nat) ∧ ∃ F : Nat, F < 32768 ∧ Hid (MqAt w N R a n c K P (id : Nat) (F : Nat) none 0 0 [] none 0 0 [] w'))
  case first =>
    by_cases c1 : odd = 1
    · subst c1
      go_wp2_with fail
      refine (unhide KN K _ (unhide HM3).b.ro 32768 32768 (by omega) (by omega) rfl).mono ?_
      rintro e w4 ⟨⟨F, hF, rfl⟩, hR1, hg1⟩
      have B1 := (unhide HM3).call hR1 ((unhide HM3).b.ro.next hg1)
      have M4 := B1.fl' (F : Nat)
      obtain ⟨⟨x0, x1, x2, x3, x4, x5⟩, y0, y1, y2, y3, y4, y5⟩ := cells6 B1.b.xa
      have l1 := blk_lt B1.b.xa
      have HM4 := hide M4
      clear hR1 hg1 B1 M4
      go_wp2_with fail
      go_meet
      exact ⟨rfl, F, hF, HM4⟩
    · have f1 : ((odd : Int) == 1) = false := beq_eq_false_iff_ne.2 (by omega)
      go_wp2_with fail
      go_meet
      exact ⟨rfl, 256 * f0, by omega, hide (by have h := unhide HM3; rw [show ((256 * f0 : Nat) : Int) = 256 * (f0 : Int) by omega]; exact h)⟩
  case rest =>
    obtain ⟨rfl, F, hF, HM4⟩ := hcut
    clear HM3 hf0
    go_upto_if 27 with fail
    go_cut [6, 7] (fun v u w' => v = .int .i64 (odd : Nat) ∧ ∃ nn : Nat, nn ≤ 2 ∧ u = .int .i64 (nn : Nat) ∧ Hid (MqAt w N R a n c K P (id : Nat) (F : Nat) none 0 0 [] none 0 0 [] w'))
    case first =>
      by_cases c1 : odd = 2
      · subst c1
        go_wp2_with fail
        refine (unhide KN K _ (unhide HM4).b.ro 3 3 (by omega) (by omega) rfl).mono ?_
        rintro e w5 ⟨⟨nn, hnn, rfl⟩, hR1, hg1⟩
        have M5 := (unhide HM4).call hR1 ((unhide HM4).b.ro.next hg1)
        have HM5 := hide M5
        clear hR1 hg1 M5
        go_wp2_with fail
        go_meet
        exact ⟨rfl, nn, by omega, rfl, HM5⟩
      · have f1 : ((odd : Int) == 2) = false := beq_eq_false_iff_ne.2 (by omega)
        go_wp2_with fail
        go_meet
        exact ⟨rfl, 1, by omega, rfl, HM4⟩
    case rest =>
      obtain ⟨rfl, nn, hnn, rfl, HM5⟩ := hcut
      clear HM4
      go_wp2_with fail
      go_loopg [8] (nn + 1) (fun g vi w' => ∃ (j : Nat) (lq : List QI) (aq : Option Addr) (cq : Nat) (K' : List ByteArray), vi = .int .i64 j ∧ j ≤ nn ∧ g = nn + 1 - j ∧ Hid (∀ x, x ∈ lq → queOk x) ∧ Hid (lq.length = j) ∧ Hid (MqAt w N R a n c K' P (id : Nat) (F : Nat) aq j cq lq none 0 0 [] w') ∧ Hid (K'.length ≤ K.length + j))
      case atStart => exact ⟨0, [], none, 0, K, rfl, Nat.zero_le _, rfl, hide (fun x hx => by simp at hx), hide rfl, HM5, hide (Nat.le_refl _)⟩
      case round =>
        clear HM5
        obtain ⟨j, lq, aq, cq, K1, rfl, hj, rfl, HQ, HLq, HM, HK⟩ := hrel
        by_cases cj : j < nn
        · have hqb : Below wr.heap.size wr (wr.alloc (.cells #[.string ⟨#[]⟩, .int .i64 0, .int .i64 1] 39)) := (Below.refl _ _).alloc (Nat.le_refl _) _
          have M1 := (unhide HM).alloc (.cells #[.string ⟨#[]⟩, .int .i64 0, .int .i64 1] 39)
          have hq1 := heap_alloc_new wr (.cells #[.string ⟨#[]⟩, .int .i64 0, .int .i64 1] 39)
          have hlX := blk_lt (unhide HM).b.xa
          have hold := (unhide HM).b.old
          have hlow := (unhide HM).b.low
          have hko : ∀ g, (Value.slice aq j cq).ownBlock = some g → g ≠ wr.heap.size := fun g hg => by have := ((unhide HM).o.lt g hg).2; omega
          have hkx : ∀ g, (Value.slice none 0 0).ownBlock = some g → g ≠ wr.heap.size := fun g hg => by simp [Value.ownBlock] at hg
          have kw := wanted_k N R a n c K1 l al cl _ M1.b.ro (by have := unhide HK; omega) ((unhide HRow).call M1.b.fr) hl hz
          have KW := hide kw
          have HKo := hide hko
          have HKx := hide hkx
          clear hqb kw hko hkx HM
          go_wp2_with fail
          generalize wr.alloc (.cells #[.string ⟨#[]⟩, .int .i64 0, .int .i64 1] 39) = w1 at *
          generalize wr.heap.size = Q at *
          refine (unhide KW).mono ?_
          rintro e w2 ⟨s, K2, hs, rfl, hR1, hK2, hf1⟩
          have HS := hide hs
          have M2 := M1.call hR1 hf1
          have hq2 := hf1.kind _ _ _ _ hq1 (by decide) (by decide) (by decide)
          have M3 := M2.other hq2 (by omega) (by omega) (by omega) (by omega) (by decide) (by decide) 0 (.string s) (unhide HKo) (unhide HKx)
          have hq3 := blk_set hq2 0 (.string s)
          obtain ⟨⟨x0, x1, x2⟩, y0, y1, y2⟩ := cells3 hq2
          have l1 := blk_lt hq2
          clear hs hR1 hf1 M1 M2 hq1 hq2 KW
          have hq3' : (w2.setCell ⟨Q, 0, none⟩ (.string s)).heap[Q]? = some (.cells #[.string s, .int .i64 0, .int .i64 1] 39 (0, 0)) := hq3
          clear hq3
          go_wp2_with fail
          generalize w2.setCell ⟨Q, 0, none⟩ (.string s) = w3 at *
          clear x0 x1 x2 y0 y1 y2 l1
          refine (kind_k N R a n c K2 _ M3.b.ro).mono ?_
          rintro e w4 ⟨⟨ty, hty, rfl⟩, hR1, hf1⟩
          have M4 := M3.call hR1 hf1
          have hq4 := hf1.kind _ _ _ _ hq3' (by decide) (by decide) (by decide)
          have M5 := M4.other hq4 (by omega) (by omega) (by omega) (by omega) (by decide) (by decide) 1 (.int .i64 (ty : Nat)) (unhide HKo) (unhide HKx)
          have hq5 : (w4.setCell ⟨Q, 1, none⟩ (.int .i64 (ty : Nat))).heap[Q]? = some (.cells #[.string s, .int .i64 (ty : Nat), .int .i64 1] 39 (0, 0)) := blk_set hq4 1 (.int .i64 (ty : Nat))
          obtain ⟨⟨x0, x1, x2⟩, y0, y1, y2⟩ := cells3 hq4
          have l1 := blk_lt hq4
          clear hR1 hf1 M3 M4 hq4 hq3'
          by_cases c3 : odd = 3
          · subst c3
            go_upto_region 17 with fail
            generalize w4.setCell ⟨Q, 1, none⟩ (.int .i64 (ty : Nat)) = w5 at *
            clear x0 x1 x2 y0 y1 y2 l1
            go_wp2_with fail
            refine (unhide KN K2 _ M5.b.ro 65536 65536 (by omega) (by omega) rfl).mono ?_
            rintro e w6 ⟨⟨kl, hkl, rfl⟩, hR1, hg1⟩
            have hf1 := M5.b.ro.next hg1
            have M6 := M5.call hR1 hf1
            have hq6 := hf1.kind _ _ _ _ hq5 (by decide) (by decide) (by decide)
            have M7 := M6.other hq6 (by omega) (by omega) (by omega) (by omega) (by decide) (by decide) 2 (.int .i64 (kl : Nat)) (unhide HKo) (unhide HKx)
            have hq9 : (w6.setCell ⟨Q, 2, none⟩ (.int .i64 (kl : Nat))).heap[Q]? = some (.cells #[.string s, .int .i64 (ty : Nat), .int .i64 (kl : Nat)] 39 (0, 0)) := blk_set hq6 2 (.int .i64 (kl : Nat))
            obtain ⟨⟨x0, x1, x2⟩, y0, y1, y2⟩ := cells3 hq6
            have l1 := blk_lt hq6
            clear hR1 hg1 hf1 M5 M6 hq6 hq5
            go_upto_region 18 with fail
            generalize w6.setCell ⟨Q, 2, none⟩ (.int .i64 (kl : Nat)) = w8 at *
            clear x0 x1 x2 y0 y1 y2 l1
            have HMx := hide M7
            obtain ⟨⟨u0, u1, u2⟩, v0, v1, v2⟩ := cells3 hq9
            obtain ⟨⟨m0, m1, m2, m3, m4, m5⟩, t0, t1, t2, t3, t4, t5⟩ := cells6 M7.b.xa
            have l8 := blk_lt hq9
            have l9 := blk_lt M7.b.xa
            have hPw : P ≤ w8.heap.size := by omega
            clear hq9 M7
            go_wp2_with (at_builtin; refine wpList_append_row _ rfl _ _ 24 24 rfl P 39 j0 (.agg #[.string ⟨#[]⟩, .int .i64 0, .int .i64 0]) 3 32 Tryz.underlying24 (unhide Ji) (unhide Jz0) (unhide Jz1) (unhide Jz2) rfl (.slice aq j cq) j (qcI lq) (by rfl) ((unhide HMx).o.alloc _) (.slice (some ⟨w8.heap.size, 0, none⟩) 1 1) 1 [.string s, .int .i64 (ty : Nat), .int .i64 ((kl : Nat) : Int)] (by rfl) (Src.ofSlice _ Tryz.underlying24 ⟨w8.heap.size, 0, none⟩ 1 1 _ rfl (cell_three_new _ _ _ _ _ _ (by simp)) (fun x hx => by simp at hx; rcases hx with rfl | rfl | rfl <;> rfl)) (by unfold maxLen; omega) (by omega) (by simp; omega) ?_; intro a1 e1 w7 hown2 hgrow2 hat2; have hx7 := (((unhide HMx).alloc _).b.app ((unhide HMx).o.alloc _) hgrow2 (by decide) (by decide) (by decide)).xa; obtain ⟨⟨n0, n1, n2, n3, n4, n5⟩, p0, p1, p2, p3, p4, p5⟩ := cells6 hx7; have l7 := blk_lt hx7)
            go_roundg (nn + 1 - (j + 1))
            case measure => omega
            case rel =>
              have hM9 := ((unhide HMx).alloc _).appq (q := ⟨s, (ty : Nat), ((kl : Nat) : Int)⟩) hown2 hgrow2
              refine ⟨j + 1, lq ++ [⟨s, (ty : Nat), ((kl : Nat) : Int)⟩], a1, e1, K2, by go_num, by omega, rfl, hide ?_, hide (by rw [List.length_append, unhide HLq]; rfl), hide hM9, hide (by have := unhide HK; omega)⟩
              intro x hx
              rcases List.mem_append.1 hx with hx | hx
              · exact unhide HQ x hx
              · rw [List.mem_singleton] at hx
                subst hx
                refine ⟨unhide HS, ⟨?_, ?_⟩, ⟨?_, ?_⟩⟩
                · show (0 : Int) ≤ (ty : Int); omega
                · show (ty : Int) ≤ 65535; omega
                · show (0 : Int) ≤ ((kl : Nat) : Int); omega
                · show ((kl : Nat) : Int) ≤ (65535 : Int); omega
          · have f3 : ((odd : Int) == 3) = false := beq_eq_false_iff_ne.2 (by omega)
            have hq9 := hq5
            go_upto_if 44 with fail
            generalize w4.setCell ⟨Q, 1, none⟩ (.int .i64 (ty : Nat)) = w5 at *
            clear x0 x1 x2 y0 y1 y2 l1 hq5
            have HMx := hide M5
            obtain ⟨⟨u0, u1, u2⟩, v0, v1, v2⟩ := cells3 hq9
            obtain ⟨⟨m0, m1, m2, m3, m4, m5⟩, t0, t1, t2, t3, t4, t5⟩ := cells6 M5.b.xa
            have l8 := blk_lt hq9
            have l9 := blk_lt M5.b.xa
            have hPw : P ≤ w5.heap.size := by omega
            clear hq9 M5
            go_wp2_with (at_builtin; refine wpList_append_row _ rfl _ _ 24 24 rfl P 39 j0 (.agg #[.string ⟨#[]⟩, .int .i64 0, .int .i64 0]) 3 32 Tryz.underlying24 (unhide Ji) (unhide Jz0) (unhide Jz1) (unhide Jz2) rfl (.slice aq j cq) j (qcI lq) (by rfl) ((unhide HMx).o.alloc _) (.slice (some ⟨w5.heap.size, 0, none⟩) 1 1) 1 [.string s, .int .i64 (ty : Nat), .int .i64 (1 : Int)] (by rfl) (Src.ofSlice _ Tryz.underlying24 ⟨w5.heap.size, 0, none⟩ 1 1 _ rfl (cell_three_new _ _ _ _ _ _ (by simp)) (fun x hx => by simp at hx; rcases hx with rfl | rfl | rfl <;> rfl)) (by unfold maxLen; omega) (by omega) (by simp; omega) ?_; intro a1 e1 w7 hown2 hgrow2 hat2; have hx7 := (((unhide HMx).alloc _).b.app ((unhide HMx).o.alloc _) hgrow2 (by decide) (by decide) (by decide)).xa; obtain ⟨⟨n0, n1, n2, n3, n4, n5⟩, p0, p1, p2, p3, p4, p5⟩ := cells6 hx7; have l7 := blk_lt hx7)
            go_roundg (nn + 1 - (j + 1))
            case measure => omega
            case rel =>
              have hM9 := ((unhide HMx).alloc _).appq (q := ⟨s, (ty : Nat), (1 : Int)⟩) hown2 hgrow2
              refine ⟨j + 1, lq ++ [⟨s, (ty : Nat), (1 : Int)⟩], a1, e1, K2, by go_num, by omega, rfl, hide ?_, hide (by rw [List.length_append, unhide HLq]; rfl), hide hM9, hide (by have := unhide HK; omega)⟩
              intro x hx
              rcases List.mem_append.1 hx with hx | hx
              · exact unhide HQ x hx
              · rw [List.mem_singleton] at hx
                subst hx
                refine ⟨unhide HS, ⟨?_, ?_⟩, ⟨?_, ?_⟩⟩
                · show (0 : Int) ≤ (ty : Int); omega
                · show (ty : Int) ≤ 65535; omega
                · show (0 : Int) ≤ (1 : Int); omega
                · show (1 : Int) ≤ (65535 : Int); omega
        · have hlq := unhide HLq
          have hK1 : K1.length ≤ 800 := by have := unhide HK; omega
          have ej : j ≤ 2 := by omega
          have M0 := unhide HM
          clear HM HK
          go_wp2_with fail
          refine (unhide KN K1 _ M0.b.ro 2 2 (by omega) (by omega) rfl).mono ?_
          rintro e w1 ⟨⟨has, hhas, rfl⟩, hR1, hg1⟩
          have M1 := M0.call hR1 (M0.b.ro.next hg1)
          clear hR1 hg1 M0
          by_cases ch : has = 1
          · subst ch
            have ko := opt_few N R a n c K1 w1 M1.b.ro
            have KO := hide ko
            clear ko
            go_wp2_with fail
            refine (unhide KO).mono ?_
            rintro e w2 ⟨⟨xn, xt, xc, xl, xd⟩, K2, hrec, hty, hnm, hds, rfl, hR1, hK2, hf1⟩
            simp only at hty hnm hds ⊢
            subst hty
            subst hnm
            have HRec := hide hrec
            clear hrec KO
            by_cases c4 : odd = 4
            · subst c4
              have M2 := (M1.call hR1 hf1).alloc (.cells #[.string ⟨#[0]⟩, .int .i64 41, .int .i64 xc, .int .i64 xl, .string xd] 33)
              have ho2 := heap_alloc_new w2 (.cells #[.string ⟨#[0]⟩, .int .i64 41, .int .i64 xc, .int .i64 xl, .string xd] 33)
              have hko : ∀ g, (Value.slice aq j cq).ownBlock = some g → g ≠ w2.heap.size := fun g hg => by have := ((M1.call hR1 hf1).o.lt g hg).2; omega
              have hkx : ∀ g, (Value.slice none 0 0).ownBlock = some g → g ≠ w2.heap.size := fun g hg => by simp [Value.ownBlock] at hg
              have hlX := blk_lt (M1.call hR1 hf1).b.xa
              have hold := M1.b.old
              have hlow := M1.b.low
              have HKo := hide hko
              have HKx := hide hkx
              have HM2 := hide M2
              clear hko hkx M1 hR1 hf1 M2
              go_wp2_with fail
              generalize w2.alloc (.cells #[.string ⟨#[0]⟩, .int .i64 41, .int .i64 xc, .int .i64 xl, .string xd] 33) = w3 at *
              generalize w2.heap.size = O at *
              refine (unhide KN K2 _ (unhide HM2).b.ro 5000 5000 (by omega) (by omega) rfl).mono ?_
              rintro e w4 ⟨⟨kl, hkl, rfl⟩, hR1, hg1⟩
              have hf1 := (unhide HM2).b.ro.next hg1
              have M3 := (unhide HM2).call hR1 hf1
              have ho3 := hf1.kind _ _ _ _ ho2 (by decide) (by decide) (by decide)
              have M4 := M3.other ho3 (by omega) (by omega) (by omega) (by omega) (by decide) (by decide) 2 (.int .i64 (kl : Nat)) (unhide HKo) (unhide HKx)
              have ho4 : (w4.setCell ⟨O, 2, none⟩ (.int .i64 (kl : Nat))).heap[O]? = some (.cells #[.string ⟨#[0]⟩, .int .i64 41, .int .i64 (kl : Nat), .int .i64 xl, .string xd] 33 (0, 0)) := blk_set ho3 2 (.int .i64 (kl : Nat))
              obtain ⟨⟨x0, x1, x2, x3, x4⟩, y0, y1, y2, y3, y4⟩ := cells5 ho3
              have l1 := blk_lt ho3
              clear hR1 hg1 hf1 M3 ho3 ho2 HM2
              go_upto_region 25 with fail
              generalize w4.setCell ⟨O, 2, none⟩ (.int .i64 (kl : Nat)) = w5 at *
              clear x0 x1 x2 x3 x4 y0 y1 y2 y3 y4 l1
              obtain ⟨⟨x0, x1, x2, x3, x4⟩, y0, y1, y2, y3, y4⟩ := cells5 ho4
              obtain ⟨⟨m0, m1, m2, m3, m4, m5⟩, t0, t1, t2, t3, t4, t5⟩ := cells6 M4.b.xa
              have l8 := blk_lt ho4
              have l9 := blk_lt M4.b.xa
              have hPw : P ≤ w5.heap.size := by omega
              have HMx := hide M4
              have hok : msgOk ⟨(id : Nat), (F : Nat), lq, [], [], [⟨⟨#[0]⟩, 41, (kl : Nat), xl, xd⟩]⟩ := by
                refine ⟨⟨by show (0 : Int) ≤ (id : Int); omega, by show (id : Int) ≤ 65535; omega⟩, ⟨by show (0 : Int) ≤ (F : Int); omega, by show (F : Int) ≤ 65535; omega⟩, ⟨by show lq.length ≤ 65535; omega, fun i hi => unhide HQ _ (List.getElem_mem hi)⟩, ⟨by simp, fun i hi => absurd hi (by simp)⟩, ⟨by simp, fun i hi => absurd hi (by simp)⟩, ⟨by simp, fun i hi => ?_⟩⟩
                have ei : i = 0 := by simpa using hi
                subst ei
                obtain ⟨r1, r2, r3, r4, r5⟩ := unhide HRec
                refine ⟨⟨r1, r2, ⟨by show (0 : Int) ≤ (kl : Int); omega, by show (kl : Int) ≤ 65535; omega⟩, ?_, r5⟩, fun hm => ?_⟩
                · first | exact r4 | exact ⟨by show (0 : Int) ≤ 0; omega, by show (0 : Int) ≤ 4294967295; omega⟩
                · rcases hm.2 with ⟨y, hy, _⟩ | q | q
                  · simp at hy
                  · exact q rfl
                  · exact q rfl
              have HOk := hide hok
              clear ho4 M4 hok
              go_wp2_with (at_builtin; refine wpList_append_row _ rfl _ _ 25 25 rfl P 33 i0 (.agg #[.string ⟨#[]⟩, .int .i64 0, .int .i64 0, .int .i64 0, .string ⟨#[]⟩]) 5 56 Tryz.underlying25 (unhide Hi) (unhide Hz0) (unhide Hz1) (unhide Hz2) rfl (.slice none 0 0) 0 (rcI []) (by rfl) ((unhide HMx).x.alloc _) (.slice (some ⟨w5.heap.size, 0, none⟩) 1 1) 1 [.string ⟨#[0]⟩, .int .i64 41, .int .i64 (kl : Nat), .int .i64 xl, .string xd] (by rfl) (Src.ofSlice _ Tryz.underlying25 ⟨w5.heap.size, 0, none⟩ 1 1 _ rfl (cell_five_new _ _ _ _ _ _ _ _ (by simp)) one5) (by unfold maxLen; omega) (by omega) (by simp; omega) ?_; intro a1 e1 w7 hown2 hgrow2 hat2; have hb7 := ((unhide HMx).alloc _).b.app ((unhide HMx).x.alloc _) hgrow2 (by decide) (by decide) (by decide); obtain ⟨⟨n0, n1, n2, n3, n4, n5⟩, p0, p1, p2, p3, p4, p5⟩ := cells6 hb7.xa; obtain ⟨⟨s0, s1, s2, s3, s4, s5⟩, q0, q1, q2, q3, q4, q5⟩ := cells6 hb7.pa; have l7 := blk_lt hb7.xa; have l6 := blk_lt hb7.pa)
              have M9 : MqAt w N R a n c K2 P (id : Nat) (F : Nat) aq j cq lq a1 1 e1 [⟨⟨#[0]⟩, 41, (kl : Nat), xl, xd⟩] (w7.setCell ⟨P + 1, 5, none⟩ (.slice a1 1 e1)) := ((unhide HMx).alloc _).appx (x := ⟨⟨#[0]⟩, 41, (kl : Nat), xl, xd⟩) hown2 hgrow2
              obtain ⟨g1, g2, g3⟩ := M9.out hlq rfl (unhide HOk)
              have hcell := store6 M9.b.pa (.int .i64 (id : Nat)) (.int .i64 (F : Nat)) (.slice aq j cq) (.slice none 0 0) (.slice none 0 0) (.slice a1 1 e1)
              obtain ⟨⟨k0, k1, k2, k3, k4, k5⟩, _⟩ := cells6 hcell
              refine bodyPost_ret (v := .agg #[.int .i64 (id : Nat), .int .i64 (F : Nat), .slice aq j cq, .slice none 0 0, .slice none 0 0, .slice a1 1 e1]) (by simp [results, Tryz.results30, go_sem, k0, k1, k2, k3, k4, k5]) rfl ?_
              exact ⟨_, _, rfl, ⟨unhide HOk, by show (F : Int) < 32768; omega, by show lq.length ≤ 2; omega, rfl, rfl, .inr ⟨_, rfl, rfl, by show (0 : Int) ≤ (kl : Int); omega, hds⟩⟩, g1, g2, by rw [hP] at g3 ⊢; exact g3⟩
            · have f4 : ((odd : Int) != 4) = true := by rw [bne_iff_ne]; omega
              have M2 := (M1.call hR1 hf1).alloc (.cells #[.string ⟨#[0]⟩, .int .i64 41, .int .i64 xc, .int .i64 0, .string xd] 33)
              have ho2 := heap_alloc_new w2 (.cells #[.string ⟨#[0]⟩, .int .i64 41, .int .i64 xc, .int .i64 0, .string xd] 33)
              have hko : ∀ g, (Value.slice aq j cq).ownBlock = some g → g ≠ w2.heap.size := fun g hg => by have := ((M1.call hR1 hf1).o.lt g hg).2; omega
              have hkx : ∀ g, (Value.slice none 0 0).ownBlock = some g → g ≠ w2.heap.size := fun g hg => by simp [Value.ownBlock] at hg
              have hlX := blk_lt (M1.call hR1 hf1).b.xa
              have hold := M1.b.old
              have hlow := M1.b.low
              have HKo := hide hko
              have HKx := hide hkx
              have HM2 := hide M2
              clear hko hkx M1 hR1 hf1 M2
              go_wp2_with fail
              generalize w2.alloc (.cells #[.string ⟨#[0]⟩, .int .i64 41, .int .i64 xc, .int .i64 0, .string xd] 33) = w3 at *
              generalize w2.heap.size = O at *
              refine (unhide KN K2 _ (unhide HM2).b.ro 5000 5000 (by omega) (by omega) rfl).mono ?_
              rintro e w4 ⟨⟨kl, hkl, rfl⟩, hR1, hg1⟩
              have hf1 := (unhide HM2).b.ro.next hg1
              have M3 := (unhide HM2).call hR1 hf1
              have ho3 := hf1.kind _ _ _ _ ho2 (by decide) (by decide) (by decide)
              have M4 := M3.other ho3 (by omega) (by omega) (by omega) (by omega) (by decide) (by decide) 2 (.int .i64 (kl : Nat)) (unhide HKo) (unhide HKx)
              have ho4 : (w4.setCell ⟨O, 2, none⟩ (.int .i64 (kl : Nat))).heap[O]? = some (.cells #[.string ⟨#[0]⟩, .int .i64 41, .int .i64 (kl : Nat), .int .i64 0, .string xd] 33 (0, 0)) := blk_set ho3 2 (.int .i64 (kl : Nat))
              obtain ⟨⟨x0, x1, x2, x3, x4⟩, y0, y1, y2, y3, y4⟩ := cells5 ho3
              have l1 := blk_lt ho3
              clear hR1 hg1 hf1 M3 ho3 ho2 HM2
              go_upto_region 25 with fail
              generalize w4.setCell ⟨O, 2, none⟩ (.int .i64 (kl : Nat)) = w5 at *
              clear x0 x1 x2 x3 x4 y0 y1 y2 y3 y4 l1
              obtain ⟨⟨x0, x1, x2, x3, x4⟩, y0, y1, y2, y3, y4⟩ := cells5 ho4
              obtain ⟨⟨m0, m1, m2, m3, m4, m5⟩, t0, t1, t2, t3, t4, t5⟩ := cells6 M4.b.xa
              have l8 := blk_lt ho4
              have l9 := blk_lt M4.b.xa
              have hPw : P ≤ w5.heap.size := by omega
              have HMx := hide M4
              have hok : msgOk ⟨(id : Nat), (F : Nat), lq, [], [], [⟨⟨#[0]⟩, 41, (kl : Nat), 0, xd⟩]⟩ := by
                refine ⟨⟨by show (0 : Int) ≤ (id : Int); omega, by show (id : Int) ≤ 65535; omega⟩, ⟨by show (0 : Int) ≤ (F : Int); omega, by show (F : Int) ≤ 65535; omega⟩, ⟨by show lq.length ≤ 65535; omega, fun i hi => unhide HQ _ (List.getElem_mem hi)⟩, ⟨by simp, fun i hi => absurd hi (by simp)⟩, ⟨by simp, fun i hi => absurd hi (by simp)⟩, ⟨by simp, fun i hi => ?_⟩⟩
                have ei : i = 0 := by simpa using hi
                subst ei
                obtain ⟨r1, r2, r3, r4, r5⟩ := unhide HRec
                refine ⟨⟨r1, r2, ⟨by show (0 : Int) ≤ (kl : Int); omega, by show (kl : Int) ≤ 65535; omega⟩, ?_, r5⟩, fun hm => ?_⟩
                · first | exact r4 | exact ⟨by show (0 : Int) ≤ 0; omega, by show (0 : Int) ≤ 4294967295; omega⟩
                · rcases hm.2 with ⟨y, hy, _⟩ | q | q
                  · simp at hy
                  · exact q rfl
                  · exact q rfl
              have HOk := hide hok
              clear ho4 M4 hok
              go_wp2_with (at_builtin; refine wpList_append_row _ rfl _ _ 25 25 rfl P 33 i0 (.agg #[.string ⟨#[]⟩, .int .i64 0, .int .i64 0, .int .i64 0, .string ⟨#[]⟩]) 5 56 Tryz.underlying25 (unhide Hi) (unhide Hz0) (unhide Hz1) (unhide Hz2) rfl (.slice none 0 0) 0 (rcI []) (by rfl) ((unhide HMx).x.alloc _) (.slice (some ⟨w5.heap.size, 0, none⟩) 1 1) 1 [.string ⟨#[0]⟩, .int .i64 41, .int .i64 (kl : Nat), .int .i64 0, .string xd] (by rfl) (Src.ofSlice _ Tryz.underlying25 ⟨w5.heap.size, 0, none⟩ 1 1 _ rfl (cell_five_new _ _ _ _ _ _ _ _ (by simp)) one5) (by unfold maxLen; omega) (by omega) (by simp; omega) ?_; intro a1 e1 w7 hown2 hgrow2 hat2; have hb7 := ((unhide HMx).alloc _).b.app ((unhide HMx).x.alloc _) hgrow2 (by decide) (by decide) (by decide); obtain ⟨⟨n0, n1, n2, n3, n4, n5⟩, p0, p1, p2, p3, p4, p5⟩ := cells6 hb7.xa; obtain ⟨⟨s0, s1, s2, s3, s4, s5⟩, q0, q1, q2, q3, q4, q5⟩ := cells6 hb7.pa; have l7 := blk_lt hb7.xa; have l6 := blk_lt hb7.pa)
              have M9 : MqAt w N R a n c K2 P (id : Nat) (F : Nat) aq j cq lq a1 1 e1 [⟨⟨#[0]⟩, 41, (kl : Nat), 0, xd⟩] (w7.setCell ⟨P + 1, 5, none⟩ (.slice a1 1 e1)) := ((unhide HMx).alloc _).appx (x := ⟨⟨#[0]⟩, 41, (kl : Nat), 0, xd⟩) hown2 hgrow2
              obtain ⟨g1, g2, g3⟩ := M9.out hlq rfl (unhide HOk)
              have hcell := store6 M9.b.pa (.int .i64 (id : Nat)) (.int .i64 (F : Nat)) (.slice aq j cq) (.slice none 0 0) (.slice none 0 0) (.slice a1 1 e1)
              obtain ⟨⟨k0, k1, k2, k3, k4, k5⟩, _⟩ := cells6 hcell
              refine bodyPost_ret (v := .agg #[.int .i64 (id : Nat), .int .i64 (F : Nat), .slice aq j cq, .slice none 0 0, .slice none 0 0, .slice a1 1 e1]) (by simp [results, Tryz.results30, go_sem, k0, k1, k2, k3, k4, k5]) rfl ?_
              exact ⟨_, _, rfl, ⟨unhide HOk, by show (F : Int) < 32768; omega, by show lq.length ≤ 2; omega, rfl, rfl, .inr ⟨_, rfl, rfl, by show (0 : Int) ≤ (kl : Int); omega, hds⟩⟩, g1, g2, by rw [hP] at g3 ⊢; exact g3⟩
          · have f5 : ((has : Int) == 1) = false := beq_eq_false_iff_ne.2 (by omega)
            have hok : msgOk ⟨(id : Nat), (F : Nat), lq, [], [], []⟩ := ⟨⟨by show (0 : Int) ≤ (id : Int); omega, by show (id : Int) ≤ 65535; omega⟩, ⟨by show (0 : Int) ≤ (F : Int); omega, by show (F : Int) ≤ 65535; omega⟩, ⟨by show lq.length ≤ 65535; omega, fun i hi => unhide HQ _ (List.getElem_mem hi)⟩, ⟨by simp, fun i hi => absurd hi (by simp)⟩, ⟨by simp, fun i hi => absurd hi (by simp)⟩, ⟨by simp, fun i hi => absurd hi (by simp)⟩⟩
            obtain ⟨g1, g2, g3⟩ := M1.out hlq rfl hok
            have HG3 := hide g3
            have HG1 := hide g1
            have HG2 := hide g2
            have HOk := hide hok
            have hcell := store6 M1.b.pa (.int .i64 (id : Nat)) (.int .i64 (F : Nat)) (.slice aq j cq) (.slice none 0 0) (.slice none 0 0) (.slice none 0 0)
            obtain ⟨⟨x0, x1, x2, x3, x4, x5⟩, y0, y1, y2, y3, y4, y5⟩ := cells6 M1.b.xa
            obtain ⟨⟨p0, p1, p2, p3, p4, p5⟩, t0, t1, t2, t3, t4, t5⟩ := cells6 M1.b.pa
            have l1 := blk_lt M1.b.xa
            have l2 := blk_lt M1.b.pa
            have HCell := hide hcell
            clear g1 g2 g3 hok hcell M1
            go_wp2_with fail
            obtain ⟨⟨k0, k1, k2, k3, k4, k5⟩, _⟩ := cells6 (unhide HCell)
            refine bodyPost_ret (v := .agg #[.int .i64 (id : Nat), .int .i64 (F : Nat), .slice aq j cq, .slice none 0 0, .slice none 0 0, .slice none 0 0]) (by simp [results, Tryz.results30, go_sem, k0, k1, k2, k3, k4, k5]) rfl ?_
            exact ⟨_, _, rfl, ⟨unhide HOk, by show (F : Int) < 32768; omega, by show lq.length ≤ 2; omega, rfl, rfl, .inl rfl⟩, unhide HG1, unhide HG2, unhide HG3⟩

end Go.Proofs.YtdhobdmhnocbgabGreat
