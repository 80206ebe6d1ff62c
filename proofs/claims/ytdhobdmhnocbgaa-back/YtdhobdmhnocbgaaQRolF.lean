/-
  Walks over zonekeep: lists of records.
-/
import Derived.Test.YtdhobdmhnocbgaaQRolG
namespace Go.Proofs.Ytdhobdmhnocbgaa
open Go.RowKit Zr

/-- Records of any type but OPT. -/
def Plain (l : List RI) : Prop := ∀ x, x ∈ l → recOk x ∧ x.ty ≠ 41

theorem Plain.nil : Plain [] := fun x hx => by simp at hx
theorem Plain.push {l : List RI} (h : Plain l) {x : RI} (h1 : recOk x) (h2 : x.ty ≠ 41) : Plain (l ++ [x]) := by
  intro y hy
  rcases List.mem_append.1 hy with hy | hy
  · exact h y hy
  · rw [List.mem_singleton] at hy
    subst hy
    exact ⟨h1, h2⟩
theorem Plain.take {l : List RI} (h : Plain l) (k : Nat) : Plain (l.take k) := fun x hx => h x (List.mem_of_mem_take hx)
theorem Plain.drop {l : List RI} (h : Plain l) (k : Nat) : Plain (l.drop k) := fun x hx => h x (List.mem_of_mem_drop hx)

theorem part_plain {l : List RI} (h : Plain l) (hl : l.length ≤ 65535) (p : Nat) : partOk l p :=
  ⟨hl, fun _ hi => ⟨(h _ (List.getElem_mem hi)).1, fun hm => (h _ (List.getElem_mem hi)).2 hm.1⟩⟩

theorem part_put {A B : List RI} {o : RI} (hA : Plain A) (hB : Plain B) (ho : recOk o) (h2 : o.name = ⟨#[0]⟩) (hl : (A ++ o :: B).length ≤ 65535) : partOk (A ++ o :: B) 2 := by
  refine ⟨hl, fun i hi => ?_⟩
  rcases Nat.lt_trichotomy i A.length with c | c | c
  · rw [List.getElem_append_left c]
    have := hA _ (List.getElem_mem c)
    exact ⟨this.1, fun hm => this.2 hm.1⟩
  · subst c
    have e : (A ++ o :: B)[A.length] = o := by simp
    rw [e]
    refine ⟨ho, fun hm => ?_⟩
    rcases hm.2 with ⟨y, hy, hy2⟩ | h | h
    · rw [List.take_left] at hy
      exact (hA y hy).2 hy2
    · exact h rfl
    · exact h h2
  · have hm : (A ++ o :: B)[i] ∈ B := by
      rw [List.getElem_append_right (by omega), List.getElem_cons, dif_neg (by omega)]
      exact List.getElem_mem _
    exact ⟨(hB _ hm).1, fun h => (hB _ hm).2 h.1⟩

theorem rcI_append (l m : List RI) : rcI (l ++ m) = rcI l ++ rcI m := by unfold rcI; rw [List.flatMap_append]
theorem rcI_push (l : List RI) (x : RI) : rcI (l ++ [x]) = rcI l ++ [.string x.name, .int .i64 x.ty, .int .i64 x.cl, .int .i64 x.ttl, .string x.data] := by
  rw [rcI_append]; rfl
theorem qcI_push (l : List QI) (x : QI) : qcI (l ++ [x]) = qcI l ++ [.string x.name, .int .i64 x.ty, .int .i64 x.cl] := by
  unfold qcI; rw [List.flatMap_append]; rfl

theorem owns_base {w : World} {N M : Nat} (h : N ≤ M) {e : TypeId} {size : Nat} {v : Value} {n : Nat} {xs : List Value} (ho : w.ownsRow M e size v n xs) : w.ownsRow N e size v n xs := by
  refine ⟨ho.1, ?_⟩
  rcases ho.2 with hn | ⟨g, cap, cur, hv, hb, rest⟩
  · exact .inl hn
  · exact .inr ⟨g, cap, cur, hv, by omega, rest⟩

/-- An append onto a row that is newer than w. -/
theorem RFrame.fresh {N M : Nat} {w w1 w2 : World} (h : RFrame N w w1) {e : TypeId} {size : Nat} {v : Value} {n : Nat} {xs : List Value} (hown : w1.ownsRow M e size v n xs) (hM : w.heap.size ≤ M) (hg : w1.grownBy w2 v.ownBlock) : RFrame N w w2 := by
  have hne : ∀ k, k < w.heap.size → v.ownBlock ≠ some k := fun k hk e => by have := (hown.lt k e).1; omega
  refine ⟨hg.os.trans h.os, hg.tape.trans h.tape, hg.output.trans h.output, Nat.le_trans h.size hg.size, fun k h1 h2 => (hg.block k (Nat.lt_of_lt_of_le h2 h.size) (fun e => hne k h2 e.symm)).trans (h.low k h1 h2), fun k cs t fr h1 h2 h3 h4 => ?_⟩
  have hk := blk_lt h1
  exact (hg.block k (Nat.lt_of_lt_of_le hk h.size) (fun e => hne k hk e.symm)).trans (h.kind k cs t fr h1 h2 h3 h4)

/-- What records answers. -/
def RecsOf (w : World) (N R : Nat) (a : Option Addr) (n c : Nat) (K : List ByteArray) (e : Ending) (w' : World) : Prop :=
  ∃ (l : List RI) (ar : Option Addr) (cr : Nat) (K' : List ByteArray), Plain l ∧ l.length ≤ 5 ∧ e = .returned (.slice ar l.length cr) ∧ w'.ownsRow w.heap.size 86 5 (.slice ar l.length cr) l.length (rcI l) ∧ Ro w' N R a n c K' ∧ K'.length ≤ K.length + 15 ∧ RFrame N w w'

set_option maxRecDepth 100000 in
set_option maxHeartbeats 2000000 in
theorem rolls_records (N R : Nat) (a : Option Addr) (n c : Nat) (K : List ByteArray) (w : World) (h : Ro w N R a n c K) (hK : K.length ≤ 700) :
    Calls Try.prog 50 #[.pointer (some ⟨R, 0, none⟩)] w fun e w' => RecsOf w N R a n c K e w' := by
  have hl := h.lt
  have keyN := next_any N R a n c K 6 6 w h (by omega) (by omega) rfl
  have keyR := fun (K : List ByteArray) W (h : Ro W N R a n c K) (hK : K.length ≤ 800) => record_any N R a n c K W h hK
  have H := hide h
  have KN := hide keyN
  have KR := hide keyR
  obtain ⟨i0, hi, hz0, hz1, hz2⟩ := info_parts Try.info86
  have Hi := hide hi
  have Hz0 := hide hz0
  have Hz1 := hide hz1
  have Hz2 := hide hz2
  clear hi hz0 hz1 hz2 h keyN keyR
  obtain ⟨M, hM⟩ : ∃ M, w.heap.size = M := ⟨_, rfl⟩
  have HM := hide hM
  rw [hM] at hl
  clear hM
  go_enter Try.func50, Try.ntmps50
  go_wp2_with fail
  refine (unhide KN).mono ?_
  rintro e w0 ⟨⟨r, hr, rfl⟩, hR0, hg0⟩
  have HF0 := hide ((unhide H).next hg0)
  have HR0 := hide hR0
  have hs0 : M ≤ w0.heap.size := by have := hg0.size; rw [unhide HM] at this; exact this
  clear hR0 hg0 KN H
  go_wp2_with fail
  go_loopg [3, 5] (r + 1) (fun g vl vi w' => ∃ (j : Nat) (l : List RI) (K' : List ByteArray) (ar : Option Addr) (cr : Nat), vi = .int .i64 j ∧ j ≤ r ∧ g = r + 1 - j ∧ vl = .slice ar j cr ∧ Hid (l.length = j) ∧ Hid (Plain l) ∧ Hid (w'.ownsRow M 86 5 (.slice ar j cr) j (rcI l)) ∧ Hid (Ro w' N R a n c K') ∧ Hid (K'.length ≤ K.length + 3 * j) ∧ Hid (RFrame N w w') ∧ M ≤ w'.heap.size)
  case atStart => exact ⟨0, [], K, none, 0, rfl, Nat.zero_le _, rfl, rfl, hide rfl, hide Plain.nil, hide (World.ownsRow_nil _ _ _ _), HR0, hide (by omega), HF0, hs0⟩
  case round =>
    obtain ⟨j, l, K1, ar, cr, rfl, hj, rfl, rfl, hlj, HP, HO, HR, HK, HF, hs⟩ := hrel
    by_cases cj : j < r
    · have key := unhide KR K1 _ (unhide HR) (by have := unhide HK; omega)
      have Key := hide key
      clear key
      go_wp2_with fail
      refine (unhide Key).mono ?_
      rintro e w1 ⟨x, K2, hx, hty, rfl, hR1, hK2, hf1⟩
      have hty : x.ty ≠ 41 := hty
      have HP1 := hide ((unhide HP).push hx hty)
      have HO1 := hide (hf1.owns (unhide HO) (by decide) (by decide) (by decide))
      have HR1 := hide hR1
      have HF1 := hide ((unhide HF).trans hf1)
      have HK1 : Hid (K2.length ≤ K.length + 3 * (j + 1)) := by have := unhide HK; exact hide (by omega)
      have hs1 : M ≤ w1.heap.size := Nat.le_trans hs hf1.size
      obtain ⟨nm, ty, kl, ttl, dt⟩ := x
      clear hx hty hR1 hK2 hf1 HO HR HF HP HK Key
      go_wp2_with (at_builtin; refine wpList_append_row _ rfl _ _ 23 23 rfl M 86 i0 (.agg #[.string ⟨#[]⟩, .int .i64 0, .int .i64 0, .int .i64 0, .string ⟨#[]⟩]) 5 56 Try.underlying23 (unhide Hi) (unhide Hz0) (unhide Hz1) (unhide Hz2) rfl (.slice ar j cr) j (rcI l) (by rfl) (((unhide HO1).alloc _).alloc _) (.slice (some ⟨w1.heap.size + 1, 0, none⟩) 1 1) 1 [.string nm, .int .i64 ty, .int .i64 kl, .int .i64 ttl, .string dt] (by rfl) (Src.ofSlice _ Try.underlying23 ⟨w1.heap.size + 1, 0, none⟩ 1 1 _ rfl (cell_five_new _ _ _ _ _ _ _ _ (by simp)) (fun x hx => by simp at hx; rcases hx with rfl | rfl | rfl | rfl | rfl <;> rfl)) (by unfold maxLen; omega) (by omega) (by simp; omega) ?_; intro a1 e1 w2 hown2 hgrow2 hat2)
      go_roundg (r + 1 - (j + 1))
      case measure => omega
      case rel =>
        have hA := ((Below.refl w1.heap.size w1).alloc (Nat.le_refl _) (.cells #[.string nm, .int .i64 ty, .int .i64 kl, .int .i64 ttl, .string dt] 86)).alloc (by simp) (.cells #[.string nm, .int .i64 ty, .int .i64 kl, .int .i64 ttl, .string dt] 86)
        refine ⟨j + 1, l ++ [⟨nm, ty, kl, ttl, dt⟩], K2, a1, e1, by go_num, by omega, rfl, rfl, hide (by rw [List.length_append, unhide hlj]; rfl), HP1, ?_, ?_, HK1, ?_, ?_⟩
        · rw [rcI_push]; exact hide hown2
        · exact ((unhide HR1).below hA).frame (owns_base (show N ≤ M by omega) (((unhide HO1).alloc _).alloc _)) hgrow2 (by decide) (by decide)
        · exact ((unhide HF1).trans (RFrame.of_below hA)).fresh (((unhide HO1).alloc _).alloc _) (by rw [unhide HM]; exact Nat.le_refl _) hgrow2
        · have := hgrow2.size; have := hA.size; omega
    · have ej : j = r := by omega
      have hw : RecsOf w N R a n c K (.returned (.slice ar j cr)) wr := by
        refine ⟨l, ar, cr, K1, unhide HP, by rw [unhide hlj]; omega, by rw [unhide hlj], ?_, unhide HR, ?_, unhide HF⟩
        · rw [unhide hlj, unhide HM]; exact unhide HO
        · have := unhide HK; omega
      have HW := hide hw
      clear hw
      go_wp2_with fail
      go_ret
      exact unhide HW

end Go.Proofs.Ytdhobdmhnocbgaa
