/-
  Walks over the law: a message with spare room behind each of its lists.
-/
import Derived.Test.YtdhobdmhnocbgaaQLawI
import Derived.Test.YtdhobdmhnocbgaaQRwC
namespace Go.Proofs.Ytdhobdmhnocbgaa
open Go.RowKit Zr

/-- A message of its own, with spare room. -/
def RoomM (w : World) (N : Nat) (v : Value) (m : MI) : Prop := ∃ v1 v2 v3 v4, v = .agg #[.int .i64 m.id, .int .i64 m.flags, v1, v2, v3, v4] ∧ RoomQ w N v1 m.q ∧ RoomR w N v2 m.a ∧ RoomR w N v3 m.u ∧ RoomR w N v4 m.x

theorem RoomR.set {w : World} {N O : Nat} {v : Value} {l : List RI} {cs : Array Value} {fr : Nat × Nat} (h : RoomR w N v l) (hO : w.heap[O]? = some (.cells cs 25 fr)) (j : Nat) (u : Value) : RoomR (w.setCell ⟨O, j, none⟩ u) N v l := by
  obtain ⟨g, h1, h2, h3⟩ := h
  refine ⟨g, h1, h2, (blk_set_other (fun e => ?_) j u).trans h3⟩
  subst e
  rw [h3] at hO
  cases hO
theorem RoomQ.set {w : World} {N O : Nat} {v : Value} {l : List QI} {cs : Array Value} {fr : Nat × Nat} (h : RoomQ w N v l) (hO : w.heap[O]? = some (.cells cs 25 fr)) (j : Nat) (u : Value) : RoomQ (w.setCell ⟨O, j, none⟩ u) N v l := by
  obtain ⟨g, h1, h2, h3⟩ := h
  refine ⟨g, h1, h2, (blk_set_other (fun e => ?_) j u).trans h3⟩
  subst e
  rw [h3] at hO
  cases hO
theorem RoomR.mono {w : World} {N M : Nat} {v : Value} {l : List RI} (h : RoomR w N v l) (hm : M ≤ N) : RoomR w M v l := by
  obtain ⟨g, h1, h2, h3⟩ := h
  exact ⟨g, h1, by omega, h3⟩

theorem set6_other {w : World} {k P : Nat} (h : k ≠ P) (v0 v1 v2 v3 v4 v5 : Value) : ((((((w.setCell ⟨P, 0, none⟩ v0).setCell ⟨P, 1, none⟩ v1).setCell ⟨P, 2, none⟩ v2).setCell ⟨P, 3, none⟩ v3).setCell ⟨P, 4, none⟩ v4).setCell ⟨P, 5, none⟩ v5).heap[k]? = w.heap[k]? := by
  rw [blk_set_other h, blk_set_other h, blk_set_other h, blk_set_other h, blk_set_other h, blk_set_other h]
theorem RoomR.set6 {w : World} {N O : Nat} {v : Value} {l : List RI} {cs : Array Value} {fr : Nat × Nat} (h : RoomR w N v l) (hO : w.heap[O]? = some (.cells cs 25 fr)) (v0 v1 v2 v3 v4 v5 : Value) : RoomR ((((((w.setCell ⟨O, 0, none⟩ v0).setCell ⟨O, 1, none⟩ v1).setCell ⟨O, 2, none⟩ v2).setCell ⟨O, 3, none⟩ v3).setCell ⟨O, 4, none⟩ v4).setCell ⟨O, 5, none⟩ v5) N v l := by
  obtain ⟨g, h1, h2, h3⟩ := h
  refine ⟨g, h1, h2, (set6_other (fun e => ?_) _ _ _ _ _ _).trans h3⟩
  subst e
  rw [h3] at hO
  cases hO
theorem RoomQ.set6 {w : World} {N O : Nat} {v : Value} {l : List QI} {cs : Array Value} {fr : Nat × Nat} (h : RoomQ w N v l) (hO : w.heap[O]? = some (.cells cs 25 fr)) (v0 v1 v2 v3 v4 v5 : Value) : RoomQ ((((((w.setCell ⟨O, 0, none⟩ v0).setCell ⟨O, 1, none⟩ v1).setCell ⟨O, 2, none⟩ v2).setCell ⟨O, 3, none⟩ v3).setCell ⟨O, 4, none⟩ v4).setCell ⟨O, 5, none⟩ v5) N v l := by
  obtain ⟨g, h1, h2, h3⟩ := h
  refine ⟨g, h1, h2, (set6_other (fun e => ?_) _ _ _ _ _ _).trans h3⟩
  subst e
  rw [h3] at hO
  cases hO

set_option maxRecDepth 100000 in
set_option maxHeartbeats 4000000 in
theorem roomy_any (m : MI) (v : Value) (w : World) (hm : MsgAt w w.heap.size v m) (hl : Lens m) :
    Calls Try.prog 12 #[v] w fun e w' => (∃ v', e = .returned v' ∧ RoomM w' w.heap.size v' m) ∧ Below w.heap.size w w' := by
  obtain ⟨N, hN⟩ : ∃ N, w.heap.size = N := ⟨_, rfl⟩
  rw [hN] at hm ⊢
  obtain ⟨a1, c1, a2, c2, a3, c3, a4, c4, rfl, r1, r2, r3, r4, _⟩ := hm
  obtain ⟨s1, s2, s3, s4⟩ := hl
  obtain ⟨id, fl, q, a, u, x⟩ := m
  simp only at *
  obtain ⟨i0, hi, hz0, hz1, hz2⟩ := info_parts Try.info74
  have Hi := hide hi
  have Hz0 := hide hz0
  have Hz1 := hide hz1
  have Hz2 := hide hz2
  have HRow := hide (fun W (hb : Below N w W) => r1.below hb)
  have K2 := hide (fun W (hb : Below N w W) (hs : N ≤ W.heap.size) => roomyRecords_any a a2 c2 N W (r2.below hb) hs s2)
  have K3 := hide (fun W (hb : Below N w W) (hs : N ≤ W.heap.size) => roomyRecords_any u a3 c3 N W (r3.below hb) hs s3)
  have K4 := hide (fun W (hb : Below N w W) (hs : N ≤ W.heap.size) => roomyRecords_any x a4 c4 N W (r4.below hb) hs s4)
  clear hi hz0 hz1 hz2 r1 r2 r3 r4
  obtain ⟨n, hln⟩ : ∃ n, q.length = n := ⟨_, rfl⟩
  have hcl := qcI_len q
  rw [hln] at hcl
  have HCl := hide hcl
  have HLn := hide hln
  rw [hln] at s1
  have hmt := made_tail #[.string ⟨#[]⟩, .int .i64 0, .int .i64 0] n 3 rfl (by decide)
  have hms : (madeCells #[.string ⟨#[]⟩, .int .i64 0, .int .i64 0] ((n + 1) * 3)).size = (n + 1) * 3 := size_madeCells _ _
  have HMt := hide hmt
  have HMs := hide hms
  have HOne := hide (qcI_one q)
  rw [hln]
  clear hcl hmt hms hln
  obtain ⟨W0, hW0⟩ : ∃ W0, (w.alloc (.cells #[.int .i64 id, .int .i64 fl, .slice a1 n c1, .slice a2 a.length c2, .slice a3 u.length c3, .slice a4 x.length c4] 25)).alloc (.cells #[.int .i64 0, .int .i64 0, .slice none 0 0, .slice none 0 0, .slice none 0 0, .slice none 0 0] 25) = W0 := ⟨_, rfl⟩
  obtain ⟨tA, tB⟩ := two_new w (.cells #[.int .i64 id, .int .i64 fl, .slice a1 n c1, .slice a2 a.length c2, .slice a3 u.length c3, .slice a4 x.length c4] 25) (.cells #[.int .i64 0, .int .i64 0, .slice none 0 0, .slice none 0 0, .slice none 0 0, .slice none 0 0] 25)
  rw [hW0, hN] at tA tB
  have hBel : Below N w W0 := by rw [← hW0, ← hN]; exact ((Below.refl _ _).alloc (Nat.le_refl _) _).alloc (by simp) _
  have hs0 : W0.heap.size = N + 2 := by rw [← hW0]; simp; omega
  have HW0 := hide hW0
  have TA := hide tA
  have TB := hide tB
  clear hW0 tA tB
  obtain ⟨g, hg⟩ : ∃ g, N + 2 = g := ⟨_, rfl⟩
  go_enter Try.func12, Try.ntmps12
  go_wp2_with (at_make; rw [unhide HW0]; refine wpList_make_full _ rfl _ _ 22 rfl N 74 i0 (.agg #[.string ⟨#[]⟩, .int .i64 0, .int .i64 0]) 3 Try.underlying22 (unhide Hi) (unhide Hz0) (unhide Hz1) .i64 .i64 ((n : Int) + 1) ((n : Int) + 1) (n + 1) (by rfl) (by rfl) (by omega) (by omega) (by rw [unhide Hz2]; omega) (by unfold maxLen; omega) (by omega) ?_; intro w1 hown1 hgrow1; rw [hs0, hg] at hown1; have hg1 := owns_full hown1; rw [Array.toArray_toList] at hg1; have HG1 : Hid (w1.heap[g]? = some (.cells (madeCells #[.string ⟨#[]⟩, .int .i64 0, .int .i64 0] ((n + 1) * 3)) 74 (0, 0))) := hg1; have hB1 : Below N w w1 := hBel.trans (⟨hgrow1.os, hgrow1.tape, hgrow1.output, hgrow1.size, fun k hk => hgrow1.block k (by omega) (by simp)⟩ : Below N W0 w1); have TA1 := hide ((hgrow1.block N (by omega) (by simp)).trans (unhide TA)); have TB1 := hide ((hgrow1.block (N + 1) (by omega) (by simp)).trans (unhide TB)); obtain ⟨⟨b0, b1, b2, b3, b4, b5⟩, y0, y1, y2, y3, y4, y5⟩ := cells6 (unhide TA1); clear hown1 hgrow1 hg1; rw [hs0, hg])
  have hfit : (qcI q).length ≤ (madeCells #[.string ⟨#[]⟩, .int .i64 0, .int .i64 0] ((n + 1) * 3)).size := by rw [unhide HCl, unhide HMs]; omega
  have hlen5 : (qcI q).length = n * i0.size := by rw [unhide Hz1]; exact unhide HCl
  obtain ⟨w2, hw2⟩ : ∃ w2, w1.setRow g (qcI q ++ (madeCells #[.string ⟨#[]⟩, .int .i64 0, .int .i64 0] ((n + 1) * 3)).toList.drop (qcI q).length).toArray = w2 := ⟨_, rfl⟩
  have hg2 := setRow_heap w1 g _ (qcI q ++ (madeCells #[.string ⟨#[]⟩, .int .i64 0, .int .i64 0] ((n + 1) * 3)).toList.drop (qcI q).length).toArray 74 _ (unhide HG1)
  have hB2 := below_setRow hB1 (show N ≤ g by omega) (qcI q ++ (madeCells #[.string ⟨#[]⟩, .int .i64 0, .int .i64 0] ((n + 1) * 3)).toList.drop (qcI q).length).toArray
  have TA2 := hide ((setRow_other w1 g N (qcI q ++ (madeCells #[.string ⟨#[]⟩, .int .i64 0, .int .i64 0] ((n + 1) * 3)).toList.drop (qcI q).length).toArray (by omega)).trans (unhide TA1))
  have TB2 := hide ((setRow_other w1 g (N + 1) (qcI q ++ (madeCells #[.string ⟨#[]⟩, .int .i64 0, .int .i64 0] ((n + 1) * 3)).toList.drop (qcI q).length).toArray (by omega)).trans (unhide TB1))
  rw [hw2] at hg2 hB2 TA2 TB2
  rw [run_copy_wide w1 22 22 3 74 i0 g (n + 1) (n + 1) a1 n c1 _ 74 (qcI q) Try.underlying22 (unhide Hi) (unhide HG1) hlen5 (by omega) (unhide HRow _ hB1).addr hfit (unhide HOne), hw2]
  have hg3 : w2.heap[g]? = some (.cells (qcI q ++ ([Value.string ⟨#[]⟩, Value.int .i64 0, Value.int .i64 0] : List Value)).toArray 74 (0, 0)) := by
    rw [hg2, unhide HCl, unhide HMt]
  have cc := (cell_of_blk hg3 (n * 3 + 1)).trans (at_mark _ _ _ _ _ (unhide HCl))
  have zz := frozen_of_blk hg3 (n * 3 + 1)
  have HG3 := hide hg3
  clear hg2 hg3 hfit hlen5 hB1 hw2 b0 b1 b2 b3 b4 b5 y0 y1 y2 y3 y4 y5
  obtain ⟨⟨b0, b1, b2, b3, b4, b5⟩, y0, y1, y2, y3, y4, y5⟩ := cells6 (unhide TA2)
  have hlt2 := blk_lt (unhide HG3)
  go_wp2_with fail
  have hfin := blk_set (unhide HG3) (n * 3 + 1) (.int .i64 77)
  rw [set_mark _ _ _ _ _ _ (unhide HCl)] at hfin
  have HFin := hide hfin
  have TA3 := hide ((blk_set_other (show N ≠ g by omega) (n * 3 + 1) (.int .i64 77)).trans (unhide TA2))
  have TB3 := hide ((blk_set_other (show N + 1 ≠ g by omega) (n * 3 + 1) (.int .i64 77)).trans (unhide TB2))
  have hB3 := hB2.setCell (p := ⟨g, n * 3 + 1, none⟩) (show N ≤ g by omega) (.int .i64 77)
  clear hfin cc zz b0 b1 b2 b3 b4 b5 y0 y1 y2 y3 y4 y5
  generalize w2.setCell ⟨g, n * 3 + 1, none⟩ (.int .i64 77) = w3 at *
  obtain ⟨⟨b0, b1, b2, b3, b4, b5⟩, y0, y1, y2, y3, y4, y5⟩ := cells6 (unhide TA3)
  have hltN := blk_lt (unhide TA3)
  have hltM := blk_lt (unhide TB3)
  have hltg := blk_lt (unhide HFin)
  have i1 : (0 : Int) ≤ (n : Int) := by omega
  have i2 : (n : Int) ≤ (n : Int) + 1 := by omega
  go_cut [5] (fun p w' => ∃ O, p = .pointer (some ⟨O, 0, none⟩) ∧ w3.heap.size ≤ O ∧ Hid (w'.heap[O]? = some (.cells #[.int .i64 id, .int .i64 fl, .slice (some ⟨g, 0, none⟩) n (n + 1), .slice none 0 0, .slice none 0 0, .slice none 0 0] 25 (0, 0))) ∧ Hid (Below w3.heap.size w3 w'))
  case first =>
    go_region
    all_goals go_wp2_with fail
    all_goals go_meet
    all_goals exact ⟨_, rfl, Nat.le_refl _, heap_alloc_new _ _, below_drew ((Below.refl _ _).alloc (Nat.le_refl _) _)⟩
  case rest =>
    obtain ⟨O, rfl, hO, HO, HB4⟩ := hcut
    clear b0 b1 b2 b3 b4 b5 y0 y1 y2 y3 y4 y5
    have TA4 := hide (((unhide HB4).block N hltN).trans (unhide TA3))
    have TB4 := hide (((unhide HB4).block (N + 1) hltM).trans (unhide TB3))
    have HQ4 : Hid (RoomQ wc N (.slice (some ⟨g, 0, none⟩) n (n + 1)) q) := ⟨g, by rw [unhide HLn], by omega, ((unhide HB4).block g hltg).trans (unhide HFin)⟩
    have hB4 := hB3.trans ((unhide HB4).mono (show N ≤ w3.heap.size by omega))
    have hs4 := hB4.size
    obtain ⟨⟨b0, b1, b2, b3, b4, b5⟩, y0, y1, y2, y3, y4, y5⟩ := cells6 (unhide TA4)
    obtain ⟨⟨o0, o1, o2, o3, o4, o5⟩, z0, z1, z2, z3, z4, z5⟩ := cells6 (unhide HO)
    clear HFin TA3 TB3 HG3 TA2 TB2 hB2 hB3 HB4 hlt2
    have hON : N ≠ O := by omega
    have hOM : N + 1 ≠ O := by omega
    go_wp2_with fail
    refine (unhide K2 _ hB4 (by omega)).mono ?_
    rintro e w5 ⟨⟨v2, rfl, hv2⟩, hb5⟩
    have TA5 := hide ((hb5.block N (blk_lt (unhide TA4))).trans (unhide TA4))
    have TB5 := hide ((hb5.block (N + 1) (blk_lt (unhide TB4))).trans (unhide TB4))
    have HO5 := hide ((hb5.block O (blk_lt (unhide HO))).trans (unhide HO))
    have HQ5 := hide ((unhide HQ4).below hb5)
    have hB5 := hB4.trans (hb5.mono (by omega))
    have hV2 := hide (hv2.mono (show N ≤ _ by omega))
    obtain ⟨g2, rfl, _, _, _⟩ := hv2.row
    clear hv2 b0 b1 b2 b3 b4 b5 y0 y1 y2 y3 y4 y5 o0 o1 o2 o3 o4 o5 z0 z1 z2 z3 z4 z5
    obtain ⟨⟨b0, b1, b2, b3, b4, b5⟩, y0, y1, y2, y3, y4, y5⟩ := cells6 (unhide TA5)
    obtain ⟨⟨o0, o1, o2, o3, o4, o5⟩, z0, z1, z2, z3, z4, z5⟩ := cells6 (unhide HO5)
    have TA6 := hide ((blk_set_other hON 3 (.slice (some ⟨g2, 0, none⟩) a.length (a.length + 1))).trans (unhide TA5))
    have TB6 := hide ((blk_set_other hOM 3 (.slice (some ⟨g2, 0, none⟩) a.length (a.length + 1))).trans (unhide TB5))
    have HO6 := hide ((blk_set (unhide HO5) 3 (.slice (some ⟨g2, 0, none⟩) a.length (a.length + 1))).trans rfl)
    have HQ6 := hide ((unhide HQ5).set (unhide HO5) 3 (.slice (some ⟨g2, 0, none⟩) a.length (a.length + 1)))
    have R2_6 := hide ((unhide hV2).set (unhide HO5) 3 (.slice (some ⟨g2, 0, none⟩) a.length (a.length + 1)))
    have hB6 := hB5.setCell (p := ⟨O, 3, none⟩) (show N ≤ O by omega) (.slice (some ⟨g2, 0, none⟩) a.length (a.length + 1))
    have hs6 : N ≤ (w5.setCell ⟨O, 3, none⟩ (.slice (some ⟨g2, 0, none⟩) a.length (a.length + 1))).heap.size := by rw [size_set]; have := hB5.size; omega
    go_wp2_with fail
    clear b0 b1 b2 b3 b4 b5 y0 y1 y2 y3 y4 y5 o0 o1 o2 o3 o4 o5 z0 z1 z2 z3 z4 z5
    generalize w5.setCell ⟨O, 3, none⟩ (.slice (some ⟨g2, 0, none⟩) a.length (a.length + 1)) = w6 at *
    obtain ⟨⟨b0, b1, b2, b3, b4, b5⟩, y0, y1, y2, y3, y4, y5⟩ := cells6 (unhide TA6)
    obtain ⟨⟨o0, o1, o2, o3, o4, o5⟩, z0, z1, z2, z3, z4, z5⟩ := cells6 (unhide HO6)
    refine (unhide K3 _ hB6 (by omega)).mono ?_
    rintro e w7 ⟨⟨v3, rfl, hv3⟩, hb7⟩
    have TA7 := hide ((hb7.block N (blk_lt (unhide TA6))).trans (unhide TA6))
    have TB7 := hide ((hb7.block (N + 1) (blk_lt (unhide TB6))).trans (unhide TB6))
    have HO7 := hide ((hb7.block O (blk_lt (unhide HO6))).trans (unhide HO6))
    have HQ7 := hide ((unhide HQ6).below hb7)
    have R2_7 := hide ((unhide R2_6).below hb7)
    have hB7 := hB6.trans (hb7.mono (by omega))
    have hV3 := hide (hv3.mono (show N ≤ _ by omega))
    obtain ⟨g3, rfl, _, _, _⟩ := hv3.row
    clear hv3 b0 b1 b2 b3 b4 b5 y0 y1 y2 y3 y4 y5 o0 o1 o2 o3 o4 o5 z0 z1 z2 z3 z4 z5
    obtain ⟨⟨b0, b1, b2, b3, b4, b5⟩, y0, y1, y2, y3, y4, y5⟩ := cells6 (unhide TA7)
    obtain ⟨⟨o0, o1, o2, o3, o4, o5⟩, z0, z1, z2, z3, z4, z5⟩ := cells6 (unhide HO7)
    have TA8 := hide ((blk_set_other hON 4 (.slice (some ⟨g3, 0, none⟩) u.length (u.length + 1))).trans (unhide TA7))
    have TB8 := hide ((blk_set_other hOM 4 (.slice (some ⟨g3, 0, none⟩) u.length (u.length + 1))).trans (unhide TB7))
    have HO8 := hide ((blk_set (unhide HO7) 4 (.slice (some ⟨g3, 0, none⟩) u.length (u.length + 1))).trans rfl)
    have HQ8 := hide ((unhide HQ7).set (unhide HO7) 4 (.slice (some ⟨g3, 0, none⟩) u.length (u.length + 1)))
    have R2_8 := hide ((unhide R2_7).set (unhide HO7) 4 (.slice (some ⟨g3, 0, none⟩) u.length (u.length + 1)))
    have R3_8 := hide ((unhide hV3).set (unhide HO7) 4 (.slice (some ⟨g3, 0, none⟩) u.length (u.length + 1)))
    have hB8 := hB7.setCell (p := ⟨O, 4, none⟩) (show N ≤ O by omega) (.slice (some ⟨g3, 0, none⟩) u.length (u.length + 1))
    have hs8 : N ≤ (w7.setCell ⟨O, 4, none⟩ (.slice (some ⟨g3, 0, none⟩) u.length (u.length + 1))).heap.size := by rw [size_set]; have := hB7.size; omega
    go_wp2_with fail
    clear b0 b1 b2 b3 b4 b5 y0 y1 y2 y3 y4 y5 o0 o1 o2 o3 o4 o5 z0 z1 z2 z3 z4 z5
    generalize w7.setCell ⟨O, 4, none⟩ (.slice (some ⟨g3, 0, none⟩) u.length (u.length + 1)) = w8 at *
    obtain ⟨⟨b0, b1, b2, b3, b4, b5⟩, y0, y1, y2, y3, y4, y5⟩ := cells6 (unhide TA8)
    obtain ⟨⟨o0, o1, o2, o3, o4, o5⟩, z0, z1, z2, z3, z4, z5⟩ := cells6 (unhide HO8)
    refine (unhide K4 _ hB8 (by omega)).mono ?_
    rintro e w9 ⟨⟨v4, rfl, hv4⟩, hb9⟩
    have TA9 := hide ((hb9.block N (blk_lt (unhide TA8))).trans (unhide TA8))
    have TB9 := hide ((hb9.block (N + 1) (blk_lt (unhide TB8))).trans (unhide TB8))
    have HO9 := hide ((hb9.block O (blk_lt (unhide HO8))).trans (unhide HO8))
    have HQ9 := hide ((unhide HQ8).below hb9)
    have R2_9 := hide ((unhide R2_8).below hb9)
    have R3_9 := hide ((unhide R3_8).below hb9)
    have hB9 := hB8.trans (hb9.mono (by omega))
    have hV4 := hide (hv4.mono (show N ≤ _ by omega))
    obtain ⟨g4, rfl, _, _, _⟩ := hv4.row
    clear hv4 b0 b1 b2 b3 b4 b5 y0 y1 y2 y3 y4 y5 o0 o1 o2 o3 o4 o5 z0 z1 z2 z3 z4 z5
    obtain ⟨⟨b0, b1, b2, b3, b4, b5⟩, y0, y1, y2, y3, y4, y5⟩ := cells6 (unhide TA9)
    obtain ⟨⟨o0, o1, o2, o3, o4, o5⟩, z0, z1, z2, z3, z4, z5⟩ := cells6 (unhide HO9)
    have TA10 := hide ((blk_set_other hON 5 (.slice (some ⟨g4, 0, none⟩) x.length (x.length + 1))).trans (unhide TA9))
    have TB10 := hide ((blk_set_other hOM 5 (.slice (some ⟨g4, 0, none⟩) x.length (x.length + 1))).trans (unhide TB9))
    have HO10 := hide ((blk_set (unhide HO9) 5 (.slice (some ⟨g4, 0, none⟩) x.length (x.length + 1))).trans rfl)
    have HQ10 := hide ((unhide HQ9).set (unhide HO9) 5 (.slice (some ⟨g4, 0, none⟩) x.length (x.length + 1)))
    have R2_10 := hide ((unhide R2_9).set (unhide HO9) 5 (.slice (some ⟨g4, 0, none⟩) x.length (x.length + 1)))
    have R3_10 := hide ((unhide R3_9).set (unhide HO9) 5 (.slice (some ⟨g4, 0, none⟩) x.length (x.length + 1)))
    have R4_10 := hide ((unhide hV4).set (unhide HO9) 5 (.slice (some ⟨g4, 0, none⟩) x.length (x.length + 1)))
    have hB10 := hB9.setCell (p := ⟨O, 5, none⟩) (show N ≤ O by omega) (.slice (some ⟨g4, 0, none⟩) x.length (x.length + 1))
    have hs10 : N ≤ (w9.setCell ⟨O, 5, none⟩ (.slice (some ⟨g4, 0, none⟩) x.length (x.length + 1))).heap.size := by rw [size_set]; have := hB9.size; omega
    obtain ⟨⟨m0, m1, m2, m3, m4, m5⟩, n0, n1, n2, n3, n4, n5⟩ := cells6 (unhide TB9)
    go_wp2_with fail
    generalize w9.setCell ⟨O, 5, none⟩ (.slice (some ⟨g4, 0, none⟩) x.length (x.length + 1)) = w10 at *
    have hf := store6 (unhide TB10) (.int .i64 id) (.int .i64 fl) (.slice (some ⟨g, 0, none⟩) n (n + 1)) (.slice (some ⟨g2, 0, none⟩) a.length (a.length + 1)) (.slice (some ⟨g3, 0, none⟩) u.length (u.length + 1)) (.slice (some ⟨g4, 0, none⟩) x.length (x.length + 1))
    obtain ⟨⟨f0, f1, f2, f3, f4, f5⟩, _⟩ := cells6 hf
    refine bodyPost_ret (v := .agg #[.int .i64 id, .int .i64 fl, .slice (some ⟨g, 0, none⟩) n (n + 1), .slice (some ⟨g2, 0, none⟩) a.length (a.length + 1), .slice (some ⟨g3, 0, none⟩) u.length (u.length + 1), .slice (some ⟨g4, 0, none⟩) x.length (x.length + 1)]) (by simp [results, Try.results12, go_sem, f0, f1, f2, f3, f4, f5]) rfl ?_
    refine ⟨⟨_, rfl, _, _, _, _, rfl, ?_, ?_, ?_, ?_⟩, below_set6 hB10 (by omega) _ _ _ _ _ _⟩
    · exact (unhide HQ10).set6 (unhide TB10) _ _ _ _ _ _
    · exact (unhide R2_10).set6 (unhide TB10) _ _ _ _ _ _
    · exact (unhide R3_10).set6 (unhide TB10) _ _ _ _ _ _
    · exact (unhide R4_10).set6 (unhide TB10) _ _ _ _ _ _

end Go.Proofs.Ytdhobdmhnocbgaa
