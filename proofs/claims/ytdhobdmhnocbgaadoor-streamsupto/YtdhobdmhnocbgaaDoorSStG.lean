/-
  Walks over the law: lists of texts with spare room behind them; Frame.
-/
import Derived.Test.YtdhobdmhnocbgaaDoorSStF
import Derived.Test.YtdhobdmhnocbgaaDoorSLawI
namespace Go.Proofs.YtdhobdmhnocbgaaDoor
open Go.RowKit Zr

/-- A list of texts with spare room behind it: one more, the caller's mark. -/
def RoomT (w : World) (N : Nat) (v : Value) (l : List ByteArray) : Prop :=
  ∃ g, v = .slice (some ⟨g, 0, none⟩) l.length (l.length + 1) ∧ N ≤ g ∧ w.heap[g]? = some (.cells (stC l ++ ([Value.string ⟨#[98, 101, 121, 111, 110, 100]⟩] : List Value)).toArray 9 (0, 0))

theorem set_markT (pre : List Value) (x0 v : Value) (r : List Value) (n : Nat) (hn : pre.length = n) : ((pre ++ x0 :: r).toArray).setIfInBounds n v = (pre ++ v :: r).toArray := by
  subst hn
  apply Array.ext'
  simp
theorem at_markT (pre : List Value) (x0 : Value) (r : List Value) (n : Nat) (hn : pre.length = n) : ((pre ++ x0 :: r).toArray)[n]? = some x0 := by
  subst hn
  simp
theorem stC_one (l : List ByteArray) : ∀ v ∈ stC l, v.oneCell' = true := by
  intro v hv
  unfold stC at hv
  obtain ⟨x, _, rfl⟩ := List.mem_map.1 hv
  rfl

set_option maxRecDepth 100000 in
set_option maxHeartbeats 1000000 in
theorem roomyTexts_any (l : List ByteArray) (a : Option Addr) (c N : Nat) (w : World) (hrow : RowAt w N a (stC l)) (hN : N ≤ w.heap.size) (hn : l.length ≤ 16777216) :
    Calls Tryd.prog 8 #[.slice a l.length c] w fun e w' => (∃ v, e = .returned v ∧ RoomT w' w.heap.size v l) ∧ Below w.heap.size w w' := by
  obtain ⟨i0, hi, hz0, hz1, hz2⟩ := info_parts Tryd.info9
  have Hi := hide hi
  have Hz0 := hide hz0
  have Hz1 := hide hz1
  have Hz2 := hide hz2
  have HRow := hide (fun W (hb : Below N w W) => hrow.below hb)
  clear hi hz0 hz1 hz2 hrow
  obtain ⟨n, hln⟩ : ∃ n, l.length = n := ⟨_, rfl⟩
  rw [hln] at hn ⊢
  have hcl := stC_len l
  rw [hln] at hcl
  have HCl := hide hcl
  have HLn := hide hln
  clear hcl hln
  go_enter Tryd.func8, Tryd.ntmps8
  have hmt := made_tail #[.string ⟨#[]⟩] n 1 rfl (by decide)
  have hms : (madeCells #[.string ⟨#[]⟩] ((n + 1) * 1)).size = (n + 1) * 1 := size_madeCells _ _
  have HMt := hide hmt
  have HMs := hide hms
  have HOne := hide (stC_one l)
  obtain ⟨g, hg⟩ : ∃ g, w.heap.size = g := ⟨_, rfl⟩
  clear hmt hms
  go_wp2_with (at_make; refine wpList_make_full _ rfl _ _ 22 rfl w.heap.size 9 i0 (.string ⟨#[]⟩) 1 Tryd.underlying22 (unhide Hi) (unhide Hz0) (unhide Hz1) .i64 .i64 ((n : Int) + 1) ((n : Int) + 1) (n + 1) (by rfl) (by rfl) (by omega) (by omega) (by rw [unhide Hz2]; omega) (by unfold maxLen; omega) (Nat.le_refl _) ?_; intro w1 hown1 hgrow1; have hg1 := owns_full hown1; rw [hg, Array.toArray_toList] at hg1; have HG1 : Hid (w1.heap[g]? = some (.cells (madeCells #[.string ⟨#[]⟩] ((n + 1) * 1)) 9 (0, 0))) := hg1; have hB1 : Below w.heap.size w w1 := ⟨hgrow1.os, hgrow1.tape, hgrow1.output, hgrow1.size, fun k hk => hgrow1.block k hk (by simp)⟩; clear hown1 hgrow1 hg1; rw [hg])
  have hfit : (stC l).length ≤ (madeCells #[.string ⟨#[]⟩] ((n + 1) * 1)).size := by rw [unhide HCl, unhide HMs]; omega
  have hlen5 : (stC l).length = n * i0.size := by rw [unhide Hz1, Nat.mul_one]; exact unhide HCl
  obtain ⟨w2, hw2⟩ : ∃ w2, w1.setRow g (stC l ++ (madeCells #[.string ⟨#[]⟩] ((n + 1) * 1)).toList.drop (stC l).length).toArray = w2 := ⟨_, rfl⟩
  have hg2 := setRow_heap w1 g _ (stC l ++ (madeCells #[.string ⟨#[]⟩] ((n + 1) * 1)).toList.drop (stC l).length).toArray 9 _ (unhide HG1)
  have hB2 := below_setRow hB1 (show w.heap.size ≤ g by omega) (stC l ++ (madeCells #[.string ⟨#[]⟩] ((n + 1) * 1)).toList.drop (stC l).length).toArray
  rw [hw2] at hg2 hB2
  rw [run_copy_wide w1 22 22 3 9 i0 g (n + 1) (n + 1) a n c _ 9 (stC l) Tryd.underlying22 (unhide Hi) (unhide HG1) hlen5 (by omega) (unhide HRow _ (hB1.mono hN)).addr hfit (unhide HOne), hw2]
  have hg3 : w2.heap[g]? = some (.cells (stC l ++ ([Value.string ⟨#[]⟩] : List Value)).toArray 9 (0, 0)) := by
    rw [hg2, unhide HCl]
    have := unhide HMt
    rw [Nat.mul_one] at this
    rw [this]
  have cc := (cell_of_blk hg3 n).trans (at_markT _ _ _ _ (unhide HCl))
  have zz := frozen_of_blk hg3 n
  have HG3 := hide hg3
  clear hg2 hg3 hfit hlen5 hB1 hw2
  go_wp2_with fail
  go_ret
  refine ⟨⟨_, rfl, g, by rw [unhide HLn]; rfl, by omega, ?_⟩, hB2.setCell (show w.heap.size ≤ g by omega) _⟩
  have hfin := blk_set (unhide HG3) n (.string ⟨#[98, 101, 121, 111, 110, 100]⟩)
  rw [set_markT _ _ _ _ _ (unhide HCl)] at hfin
  exact hfin

theorem RoomT.row {w : World} {N : Nat} {v : Value} {l : List ByteArray} (h : RoomT w N v l) : ∃ g, v = .slice (some ⟨g, 0, none⟩) l.length (l.length + 1) ∧ N ≤ g ∧ g < w.heap.size ∧ RowAt w w.heap.size (some ⟨g, 0, none⟩) (stC l) := by
  obtain ⟨g, h1, h2, h3⟩ := h
  refine ⟨g, h1, h2, blk_lt h3, fun _ => ⟨g, 0, rfl, blk_lt h3, fun j u hu => ?_⟩⟩
  rw [Nat.zero_add, cell_of_blk h3]
  have hj := (List.getElem?_eq_some_iff.1 hu).1
  rw [List.getElem?_toArray, List.getElem?_append_left hj]
  exact hu
theorem RoomT.below {w w' : World} {N : Nat} {v : Value} {l : List ByteArray} (h : RoomT w N v l) (hb : Below w.heap.size w w') : RoomT w' N v l := by
  obtain ⟨g, h1, h2, h3⟩ := h
  exact ⟨g, h1, h2, (hb.block g (blk_lt h3)).trans h3⟩

set_option maxRecDepth 100000 in
set_option maxHeartbeats 1000000 in
theorem sameTexts_true (l : List ByteArray) (a a' : Option Addr) (c c' N N' : Nat) (w : World) (h1 : RowAt w N a (stC l)) (h2 : RowAt w N' a' (stC l)) (hn : l.length ≤ 67108864) :
    Calls Tryd.prog 18 #[.slice a l.length c, .slice a' l.length c'] w fun e w' => e = .returned (.bool true) ∧ ∃ n, w' = w.drewN n := by
  have H1 := hide h1
  have H2 := hide h2
  clear h1 h2
  have hnn : ((l.length : Int) != (l.length : Int)) = false := by simp
  go_enter Tryd.func18, Tryd.ntmps18
  go_wp2_with fail
  go_loopw [5] (fun i w' => ∃ j m : Nat, j ≤ l.length ∧ i = .int .i64 j ∧ w' = w.drewN m) (fun i _ => l.length - (intOf i).toNat)
  case atStart => exact ⟨0, 0, Nat.zero_le _, rfl, rfl⟩
  case round =>
    obtain ⟨j, m, hj, rfl, rfl⟩ := hrel
    by_cases cj : j < l.length
    · obtain ⟨b, o, rfl, _, x0⟩ := row_s (unhide H1) j cj
      obtain ⟨b', o', rfl, _, y0⟩ := row_s (unhide H2) j cj
      generalize l[j] = k at *
      have hkk : (k.toList != k.toList) = false := by simp
      go_wp2_with fail
      go_quiet (fail)
      go_wp2_with fail
      exact ⟨⟨j + 1, m + nq, by omega, by go_num, rfl⟩, by simp [intOf]; omega⟩
    · go_wp2_with fail
      go_ret
      exact ⟨rfl, m, rfl⟩

set_option maxRecDepth 100000 in
set_option maxHeartbeats 1000000 in
theorem wholeTexts_true (l : List ByteArray) (v : Value) (a : Option Addr) (c N N' : Nat) (w : World) (h : RoomT w N v l) (h2 : RowAt w N' a (stC l)) (hn : l.length ≤ 16777216) :
    Calls Tryd.prog 11 #[v, .slice a l.length c] w fun e w' => e = .returned (.bool true) ∧ Below w.heap.size w w' := by
  obtain ⟨g, rfl, _, hlt, hrow⟩ := h.row
  obtain ⟨g', e1, _, hg⟩ := h
  cases e1
  have Key := hide (sameTexts_true l (some ⟨g, 0, none⟩) a (l.length + 1) c w.heap.size N' w hrow h2 (by omega))
  have hc := (cell_of_blk hg l.length).trans (at_markT _ _ _ _ (stC_len l))
  clear hrow h2 hg
  go_enter Tryd.func11, Tryd.ntmps11
  go_wp2_with fail
  refine (unhide Key).mono ?_
  rintro e w1 ⟨rfl, n1, rfl⟩
  have hcc : (w.drewN n1).cell? ⟨g, l.length, none⟩ = some (.string ⟨#[98, 101, 121, 111, 110, 100]⟩) := hc
  generalize l.length = n at *
  go_wp2_with fail
  go_ret
  exact ⟨rfl, rfl, rfl, rfl, Nat.le_refl _, fun _ _ => rfl⟩

set_option maxRecDepth 100000 in
set_option maxHeartbeats 1000000 in
theorem framed_any (l : List ByteArray) (a : Option Addr) (c N : Nat) (w : World) (hrow : RowAt w N a (stC l)) (hN : N ≤ w.heap.size) (hl : l.length ≤ 16777216) (hz : heldP l ≤ 67108864) :
    Calls Tryd.prog 4 #[.slice a l.length c] w fun e w' => e = .returned (.bool true) ∧ Below w.heap.size w w' := by
  have k1 := roomyTexts_any l a c N w hrow hN hl
  have HRow := hide (fun W (h : Below N w W) => hrow.below h)
  have K1 := hide k1
  have HZ := hide hz
  clear k1 hrow hz
  go_enter Tryd.func4, Tryd.ntmps4
  go_wp2_with fail
  refine (unhide K1).mono ?_
  rintro e w1 ⟨⟨v, rfl, hroom⟩, b1⟩
  obtain ⟨g, rfl, _, hg, hgrow⟩ := hroom.row
  have HRoom := hide hroom
  have HB1 := hide b1
  have hs1 : w.heap.size ≤ w1.heap.size := b1.size
  have k2 := frame_z l (some ⟨g, 0, none⟩) (l.length + 1) w1.heap.size w1 hgrow (Nat.le_refl _) (by omega) (unhide HZ)
  have K2 := hide k2
  clear hroom b1 k2 hgrow K1
  go_wp2_with fail
  refine (unhide K2).mono ?_
  rintro e w2 ⟨s, f, rfl, q2, b2⟩
  have HRoom2 := hide ((unhide HRoom).below b2)
  have HQ2 := hide q2
  have HB2 := hide ((unhide HB1).trans (b2.mono hs1))
  have hs2 : w.heap.size ≤ w2.heap.size := Nat.le_trans hs1 b2.size
  have k3 := refFrame_any l a c N w2 (unhide HRow _ ((unhide HB2).mono hN)) (Nat.le_trans hN hs2) (by omega) (unhide HZ)
  have K3 := hide k3
  clear q2 b2 k3 K2 HRoom HB1
  go_wp2_with fail
  refine (unhide K3).mono ?_
  rintro e w3 ⟨t, f', rfl, q3, b3⟩
  obtain ⟨rfl, rfl⟩ := (unhide HQ2).same q3
  have HRoom3 := hide ((unhide HRoom2).below b3)
  have HB3 := hide ((unhide HB2).trans (b3.mono hs2))
  have hs3 : w.heap.size ≤ w3.heap.size := Nat.le_trans hs2 b3.size
  have k4 := wholeTexts_true l (.slice (some ⟨g, 0, none⟩) l.length (l.length + 1)) a c _ N w3 (unhide HRoom3) (unhide HRow _ ((unhide HB3).mono hN)) hl
  have K4 := hide k4
  clear q3 b3 k4 K3 HRoom2 HB2 HRoom3 HQ2
  go_wp2_with fail
  refine (unhide K4).mono ?_
  rintro e w4 ⟨rfl, b4⟩
  have HB4 := hide ((unhide HB3).trans (b4.mono hs3))
  clear b4 K4 HB3
  have hss : (s.toList == s.toList) = true := by simp
  have hff : (f == f) = true := by simp
  go_wp2_with fail
  go_ret
  exact ⟨rfl, unhide HB4⟩

end Go.Proofs.YtdhobdmhnocbgaaDoor
