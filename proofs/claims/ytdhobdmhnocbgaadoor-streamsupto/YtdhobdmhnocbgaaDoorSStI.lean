/-
  Walks over the law: the feeds, into which nothing has been pushed.
-/
import Derived.Test.YtdhobdmhnocbgaaDoorSStH
namespace Go.Proofs.YtdhobdmhnocbgaaDoor
open Go.RowKit Zr

theorem Tryd.infoP : (Tryd.prog.info? 43).map (fun i => (i.zero, i.size, i.bytes)) = some (some (.pointer none), 1, 8) := by kernel_rfl
theorem Tryd.infoI : (Tryd.prog.info? 3).map (fun i => (i.zero, i.size, i.bytes)) = some (some (.int .i64 0), 1, 8) := by kernel_rfl
theorem Tryd.infoL : (Tryd.prog.info? 22).map (fun i => (i.zero, i.size, i.bytes)) = some (some (.slice none 0 0), 1, 24) := by kernel_rfl

theorem kind_ne {w : World} {a b : Nat} {cs cs' : Array Value} {t t' : TypeId} {fr fr' : Nat × Nat} (h1 : w.heap[a]? = some (.cells cs t fr)) (h2 : w.heap[b]? = some (.cells cs' t' fr')) (hne : t ≠ t') : a ≠ b := by
  rintro rfl
  rw [h1] at h2
  cases h2
  exact hne rfl

def ptrC (l : List Nat) : List Value := l.map fun R => .pointer (some ⟨R, 0, none⟩)

/-- The law's struct in the making, in block N. -/
structure Bg (w : World) (N : Nat) (vx : Value) (nx : Nat) (Rs : List Nat) (va : Value) (na : Nat) (la : List Value) (vg : Value) (ng : Nat) (lg : List Value) : Prop where
  hB : w.heap[N]? = some (.cells #[vx, va, vg, .slice none 0 0, .slice none 0 0] 42 (0, 0))
  hx : w.ownsRow N 43 1 vx nx (ptrC Rs)
  ha : w.ownsRow N 9 1 va na la
  hg : w.ownsRow N 3 1 vg ng lg
  hf : ∀ R, R ∈ Rs → N ≤ R ∧ w.heap[R]? = some (fdr ⟨#[]⟩ ⟨#[]⟩)

section
variable {w w' : World} {N : Nat} {vx : Value} {nx : Nat} {Rs : List Nat} {va : Value} {na : Nat} {la : List Value} {vg : Value} {ng : Nat} {lg : List Value}

theorem Bg.below (h : Bg w N vx nx Rs va na la vg ng lg) (hb : Below w.heap.size w w') : Bg w' N vx nx Rs va na la vg ng lg :=
  ⟨(hb.block N (blk_lt h.hB)).trans h.hB, owns_below h.hx hb, owns_below h.ha hb, owns_below h.hg hb, fun R hR => ⟨(h.hf R hR).1, (hb.block R (blk_lt (h.hf R hR).2)).trans (h.hf R hR).2⟩⟩

theorem Bg.alloc (h : Bg w N vx nx Rs va na la vg ng lg) (o : Obj) : Bg (w.alloc o) N vx nx Rs va na la vg ng lg :=
  h.below ((Below.refl _ _).alloc (Nat.le_refl _) o)

theorem Bg.appX (h : Bg w N vx nx Rs va na la vg ng lg) {v : Value} {n : Nat} {R : Nat} (ho : w'.ownsRow N 43 1 v n (ptrC (Rs ++ [R]))) (hgr : w.grownBy w' vx.ownBlock) (hR : N ≤ R ∧ w.heap[R]? = some (fdr ⟨#[]⟩ ⟨#[]⟩)) :
    Bg (w'.setCell ⟨N, 0, none⟩ v) N v n (Rs ++ [R]) va na la vg ng lg := by
  have hB := blk_kind h.hx hgr h.hB (by decide)
  refine ⟨(blk_set hB 0 v).trans rfl, owns_set_kind ho hB (by decide) 0 v, owns_set_kind (owns_kind h.hx hgr h.ha (by decide)) hB (by decide) 0 v, owns_set_kind (owns_kind h.hx hgr h.hg (by decide)) hB (by decide) 0 v, fun Q hQ => ?_⟩
  have hq : N ≤ Q ∧ w.heap[Q]? = some (fdr ⟨#[]⟩ ⟨#[]⟩) := by
    rcases List.mem_append.1 hQ with e | e
    · exact h.hf Q e
    · simp at e; subst e; exact hR
  have h2 := blk_kind h.hx hgr (show w.heap[Q]? = some (.cells _ _ _) from hq.2) (by decide)
  exact ⟨hq.1, (blk_set_other (kind_ne h2 hB (by decide)) 0 v).trans h2⟩

theorem Bg.appA (h : Bg w N vx nx Rs va na la vg ng lg) {v : Value} {n : Nat} {l : List Value} (ho : w'.ownsRow N 9 1 v n l) (hgr : w.grownBy w' va.ownBlock) :
    Bg (w'.setCell ⟨N, 1, none⟩ v) N vx nx Rs v n l vg ng lg := by
  have hB := blk_kind h.ha hgr h.hB (by decide)
  refine ⟨(blk_set hB 1 v).trans rfl, owns_set_kind (owns_kind h.ha hgr h.hx (by decide)) hB (by decide) 1 v, owns_set_kind ho hB (by decide) 1 v, owns_set_kind (owns_kind h.ha hgr h.hg (by decide)) hB (by decide) 1 v, fun Q hQ => ?_⟩
  have hq := h.hf Q hQ
  have h2 := blk_kind h.ha hgr (show w.heap[Q]? = some (.cells _ _ _) from hq.2) (by decide)
  exact ⟨hq.1, (blk_set_other (kind_ne h2 hB (by decide)) 1 v).trans h2⟩

theorem Bg.appG (h : Bg w N vx nx Rs va na la vg ng lg) {v : Value} {n : Nat} {l : List Value} (ho : w'.ownsRow N 3 1 v n l) (hgr : w.grownBy w' vg.ownBlock) :
    Bg (w'.setCell ⟨N, 2, none⟩ v) N vx nx Rs va na la v n l := by
  have hB := blk_kind h.hg hgr h.hB (by decide)
  refine ⟨(blk_set hB 2 v).trans rfl, owns_set_kind (owns_kind h.hg hgr h.hx (by decide)) hB (by decide) 2 v, owns_set_kind (owns_kind h.hg hgr h.ha (by decide)) hB (by decide) 2 v, owns_set_kind ho hB (by decide) 2 v, fun Q hQ => ?_⟩
  have hq := h.hf Q hQ
  have h2 := blk_kind h.hg hgr (show w.heap[Q]? = some (.cells _ _ _) from hq.2) (by decide)
  exact ⟨hq.1, (blk_set_other (kind_ne h2 hB (by decide)) 2 v).trans h2⟩

end

set_option maxRecDepth 100000 in
set_option maxHeartbeats 2000000 in
theorem begun_bg (w : World) :
    Calls Tryd.prog 5 #[] w fun r w' => ∃ (vx va vg : Value) (R0 R1 : Nat), r = .returned (.tuple #[.pointer (some ⟨w.heap.size, 0, none⟩), .bool true]) ∧ Bg w' w.heap.size vx 2 [R0, R1] va 2 [.string ⟨#[]⟩, .string ⟨#[]⟩] vg 2 [.int .i64 0, .int .i64 0] ∧ R0 ≠ R1 ∧ Below w.heap.size w w' := by
  obtain ⟨i1, hi, hz0, hz1, hz2⟩ := info_parts Tryd.infoP
  have Hi1 := hide hi
  have Hp0 := hide hz0
  have Hp1 := hide hz1
  have Hp2 := hide hz2
  clear hi hz0 hz1 hz2
  obtain ⟨i2, hi, hz0, hz1, hz2⟩ := info_parts Tryd.info9
  have Hi2 := hide hi
  have Hs0 := hide hz0
  have Hs1 := hide hz1
  have Hs2 := hide hz2
  clear hi hz0 hz1 hz2
  obtain ⟨i3, hi, hz0, hz1, hz2⟩ := info_parts Tryd.infoI
  have Hi3 := hide hi
  have Hn0 := hide hz0
  have Hn1 := hide hz1
  have Hn2 := hide hz2
  clear hi hz0 hz1 hz2
  go_enter Tryd.func5, Tryd.ntmps5
  go_wp2_with fail
  have h0 : Bg (w.alloc (.cells #[.slice none 0 0, .slice none 0 0, .slice none 0 0, .slice none 0 0, .slice none 0 0] 42)) w.heap.size (.slice none 0 0) 0 [] (.slice none 0 0) 0 [] (.slice none 0 0) 0 [] :=
    ⟨heap_alloc_new _ _, World.ownsRow_nil _ _ _ _, World.ownsRow_nil _ _ _ _, World.ownsRow_nil _ _ _ _, fun R hR => by cases hR⟩
  have H0 := hide h0
  have HB0 := hide ((Below.refl w.heap.size w).alloc (Nat.le_refl _) (.cells #[.slice none 0 0, .slice none 0 0, .slice none 0 0, .slice none 0 0, .slice none 0 0] 42))
  have hs0 : w.heap.size ≤ (w.alloc (.cells #[.slice none 0 0, .slice none 0 0, .slice none 0 0, .slice none 0 0, .slice none 0 0] 42)).heap.size := by simp
  clear h0
  obtain ⟨N, hN⟩ : ∃ N, w.heap.size = N := ⟨_, rfl⟩
  rw [hN] at H0 HB0 hs0
  rw [hN]
  generalize w.alloc (.cells #[.slice none 0 0, .slice none 0 0, .slice none 0 0, .slice none 0 0, .slice none 0 0] 42) = w0 at *
  have HN := hide hN
  clear hN
  go_loopg [3] 3 (fun g i w' => ∃ (j : Nat) (vx va vg : Value) (Rs : List Nat), i = .int .i64 j ∧ j ≤ 2 ∧ g = 3 - j ∧ Hid (Bg w' N vx j Rs va j (List.replicate j (.string ⟨#[]⟩)) vg j (List.replicate j (.int .i64 0))) ∧ Hid (Rs.length = j) ∧ Hid Rs.Nodup ∧ Hid (Below N w w') ∧ N ≤ w'.heap.size)
  case atStart => exact ⟨0, _, _, _, [], rfl, by omega, rfl, H0, hide rfl, hide List.nodup_nil, HB0, hs0⟩
  case round =>
    obtain ⟨j, vx, va, vg, Rs, rfl, hj, rfl, HG, HL, HD, HB, hs⟩ := hrel
    by_cases cj : j < 2
    · go_wp2_with fail
      refine (newFeed_z _).mono ?_
      rintro r w1 ⟨rfl, q1, q2, q3⟩
      have g1 := (unhide HG).below q3
      have HB1 := hide ((unhide HB).trans (q3.mono hs))
      have hs1 : N ≤ w1.heap.size := by omega
      have HF1 : Hid (N ≤ wr.heap.size ∧ w1.heap[wr.heap.size]? = some (fdr ⟨#[]⟩ ⟨#[]⟩)) := hide ⟨hs, q1⟩
      have HD1 : Hid (Rs ++ [wr.heap.size]).Nodup := hide (by
        rw [List.nodup_append]
        refine ⟨unhide HD, by simp, fun a ha b hb => ?_⟩
        simp at hb
        subst hb
        have := blk_lt ((unhide HG).hf a ha).2
        omega)
      obtain ⟨R, hR⟩ : ∃ R, wr.heap.size = R := ⟨_, rfl⟩
      rw [hR] at HF1 HD1
      rw [hR]
      have d0 : w1.cell? ⟨N, 0, none⟩ = some vx := cell_of_blk g1.hB 0
      have f0 := frozen_of_blk g1.hB 0
      have G1 := hide g1
      clear q1 q2 q3 HG HB HD g1 hR
      have G1a := hide ((unhide G1).alloc (.cells #[.pointer (some ⟨R, 0, none⟩)] 43))
      have e0 : (w1.alloc (.cells #[.pointer (some ⟨R, 0, none⟩)] 43)).cell? ⟨N, 0, none⟩ = some vx := cell_of_blk (unhide G1a).hB 0
      go_upto_region 9 with (at_builtin; refine wpList_append_row _ rfl _ _ 38 38 rfl N 43 i1 (.pointer none) 1 8 Tryd.underlying38 (unhide Hi1) (unhide Hp0) (unhide Hp1) (unhide Hp2) rfl vx j (ptrC Rs) (by rfl) (unhide G1a).hx (.slice (some ⟨w1.heap.size, 0, none⟩) 1 1) 1 [.pointer (some ⟨R, 0, none⟩)] (by rfl) (Src.ofSlice _ Tryd.underlying38 ⟨w1.heap.size, 0, none⟩ 1 1 _ rfl (cell_one_st _ _ _ _ rfl) (fun x hx => by simp at hx; subst hx; rfl)) (by unfold maxLen; omega) (by omega) (by simp; omega) ?_; intro a2 e2 w2 hown2 hgrow2 hat2; have hB2 := blk_kind (unhide G1a).hx hgrow2 (unhide G1a).hB (by decide); have b0 : w2.cell? ⟨N, 0, none⟩ = some vx := cell_of_blk hB2 0; have z0 := frozen_of_blk hB2 0; have HOwn2 := hide hown2; have HGrow2 := hide hgrow2; clear hown2 hgrow2 hat2 hB2)
      have G2 := hide ((unhide G1a).appX (R := R) (by rw [ptrC, List.map_append]; exact unhide HOwn2) (unhide HGrow2) ⟨(unhide HF1).1, ((Below.refl _ _).alloc (Nat.le_refl _) _).block _ (blk_lt (unhide HF1).2) |>.trans (unhide HF1).2⟩)
      have hA2 := (Below.refl N w1).alloc hs1 (.cells #[.pointer (some ⟨R, 0, none⟩)] 43)
      have HB2 := hide ((unhide HB1).trans ((hA2.trans (below_append (unhide G1a).hx (unhide HGrow2) (Nat.le_trans hs1 hA2.size))).setCell (p := ⟨N, 0, none⟩) (Nat.le_refl N) (.slice a2 (j + 1) e2)))
      have hs2 : N ≤ (w2.setCell ⟨N, 0, none⟩ (.slice a2 (j + 1) e2)).heap.size := by have := (unhide HGrow2).size; rw [size_set]; have := hA2.size; omega
      clear HOwn2 HGrow2 hA2 G1 G1a HB1 HF1 d0 f0 e0 b0 z0
      generalize w2.setCell ⟨N, 0, none⟩ (.slice a2 (j + 1) e2) = w3 at *
      have d0 : w3.cell? ⟨N, 1, none⟩ = some va := cell_of_blk (unhide G2).hB 1
      have f0 := frozen_of_blk (unhide G2).hB 1
      have G2a := hide ((unhide G2).alloc (.cells #[.string ⟨#[]⟩] 9))
      have e0 : (w3.alloc (.cells #[.string ⟨#[]⟩] 9)).cell? ⟨N, 1, none⟩ = some va := cell_of_blk (unhide G2a).hB 1
      go_upto_region 10 with (at_builtin; refine wpList_append_row _ rfl _ _ 22 22 rfl N 9 i2 (.string ⟨#[]⟩) 1 16 Tryd.underlying22 (unhide Hi2) (unhide Hs0) (unhide Hs1) (unhide Hs2) rfl va j (List.replicate j (.string ⟨#[]⟩)) (by rfl) (unhide G2a).ha (.slice (some ⟨w3.heap.size, 0, none⟩) 1 1) 1 [.string ⟨#[]⟩] (by rfl) (Src.ofSlice _ Tryd.underlying22 ⟨w3.heap.size, 0, none⟩ 1 1 _ rfl (cell_one_st _ _ _ _ rfl) (fun x hx => by simp at hx; subst hx; rfl)) (by unfold maxLen; omega) (by omega) (by simp; omega) ?_; intro a4 e4 w4 hown4 hgrow4 hat4; have hB4 := blk_kind (unhide G2a).ha hgrow4 (unhide G2a).hB (by decide); have b0 : w4.cell? ⟨N, 1, none⟩ = some va := cell_of_blk hB4 1; have z0 := frozen_of_blk hB4 1; have HOwn4 := hide hown4; have HGrow4 := hide hgrow4; clear hown4 hgrow4 hat4 hB4)
      have G4 := hide ((unhide G2a).appA (unhide HOwn4) (unhide HGrow4))
      have hA4 := (Below.refl N w3).alloc hs2 (.cells #[.string ⟨#[]⟩] 9)
      have HB4 := hide ((unhide HB2).trans ((hA4.trans (below_append (unhide G2a).ha (unhide HGrow4) (Nat.le_trans hs2 hA4.size))).setCell (p := ⟨N, 1, none⟩) (Nat.le_refl N) (.slice a4 (j + 1) e4)))
      have hs4 : N ≤ (w4.setCell ⟨N, 1, none⟩ (.slice a4 (j + 1) e4)).heap.size := by have := (unhide HGrow4).size; rw [size_set]; have := hA4.size; omega
      clear HOwn4 HGrow4 hA4 G2 G2a HB2 d0 f0 e0 b0 z0
      generalize w4.setCell ⟨N, 1, none⟩ (.slice a4 (j + 1) e4) = w5 at *
      have d0 : w5.cell? ⟨N, 2, none⟩ = some vg := cell_of_blk (unhide G4).hB 2
      have f0 := frozen_of_blk (unhide G4).hB 2
      have G4a := hide ((unhide G4).alloc (.cells #[.int .i64 0] 3))
      have e0 : (w5.alloc (.cells #[.int .i64 0] 3)).cell? ⟨N, 2, none⟩ = some vg := cell_of_blk (unhide G4a).hB 2
      go_wp2_with (at_builtin; refine wpList_append_row _ rfl _ _ 39 39 rfl N 3 i3 (.int .i64 0) 1 8 Tryd.underlying39 (unhide Hi3) (unhide Hn0) (unhide Hn1) (unhide Hn2) rfl vg j (List.replicate j (.int .i64 0)) (by rfl) (unhide G4a).hg (.slice (some ⟨w5.heap.size, 0, none⟩) 1 1) 1 [.int .i64 0] (by rfl) (Src.ofSlice _ Tryd.underlying39 ⟨w5.heap.size, 0, none⟩ 1 1 _ rfl (cell_one_st _ _ _ _ rfl) (fun x hx => by simp at hx; subst hx; rfl)) (by unfold maxLen; omega) (by omega) (by simp; omega) ?_; intro a6 e6 w6 hown6 hgrow6 hat6; have hB6 := blk_kind (unhide G4a).hg hgrow6 (unhide G4a).hB (by decide); have b0 : w6.cell? ⟨N, 2, none⟩ = some vg := cell_of_blk hB6 2; have z0 := frozen_of_blk hB6 2; have HOwn6 := hide hown6; have HGrow6 := hide hgrow6; clear hown6 hgrow6 hat6 hB6)
      go_roundg (3 - (j + 1))
      case measure => omega
      case rel =>
        have G6 := (unhide G4a).appG (unhide HOwn6) (unhide HGrow6)
        have hA6 := (Below.refl N w5).alloc hs4 (.cells #[.int .i64 0] 3)
        have HB6 := (unhide HB4).trans ((hA6.trans (below_append (unhide G4a).hg (unhide HGrow6) (Nat.le_trans hs4 hA6.size))).setCell (p := ⟨N, 2, none⟩) (Nat.le_refl N) (.slice a6 (j + 1) e6))
        refine ⟨j + 1, .slice a2 (j + 1) e2, .slice a4 (j + 1) e4, .slice a6 (j + 1) e6, Rs ++ [R], by go_num, by omega, rfl, hide ?_, hide (by rw [List.length_append, unhide HL]; rfl), HD1, hide HB6, ?_⟩
        · rw [List.replicate_succ', List.replicate_succ']
          exact G6
        · have := (unhide HGrow6).size; rw [size_set]; have := hA6.size; omega
    · have ej : j = 2 := by omega
      subst ej
      obtain ⟨R0, R1, rfl⟩ : ∃ R0 R1, Rs = [R0, R1] := by
        have := unhide HL
        match Rs, this with
        | [a, b], _ => exact ⟨a, b, rfl⟩
      go_wp2_with fail
      go_ret2
      rw [unhide HN]
      refine ⟨vx, va, vg, R0, R1, rfl, unhide HG, ?_, unhide HB⟩
      have := unhide HD
      simpa using this

end Go.Proofs.YtdhobdmhnocbgaaDoor
