/-
  Walks over the law: lists with spare room behind them (roomyRecords, sameRecords, sameQuestions, SameMessage).
-/
import Derived.Test.YtgpgllbakfgocaaLawG
import Derived.Test.YtgpgllbakfgocaaLawC
import Derived.Laws.CopyOwn
namespace Go.Proofs.Ytgpgllbakfgocaa
open Go.RowKit Zr

theorem owns_full {w : World} {base g : Nat} {e : TypeId} {size n : Nat} {xs : List Value} (h : w.ownsRow base e size (.slice (some ⟨g, 0, none⟩) n n) n xs) : w.heap[g]? = some (.cells xs.toArray e (0, 0)) := by
  rcases h.2 with ⟨h1, _⟩ | ⟨g', cap, cur, h1, h2, h3, h4, h5, h6, h7⟩
  · cases h1
  · cases h1
    have e1 : cur.toList = xs := by rw [← h7, List.take_of_length_le]; rw [Array.length_toList, h6]; exact Nat.le_refl _
    rw [h3, ← e1]

theorem set_mark (pre : List Value) (x0 x1 v : Value) (r : List Value) (n : Nat) (hn : pre.length = n) : ((pre ++ x0 :: x1 :: r).toArray).setIfInBounds (n + 1) v = (pre ++ x0 :: v :: r).toArray := by
  subst hn
  apply Array.ext'
  simp

theorem at_mark (pre : List Value) (x0 x1 : Value) (r : List Value) (n : Nat) (hn : pre.length = n) : ((pre ++ x0 :: x1 :: r).toArray)[n + 1]? = some x1 := by
  subst hn
  simp

set_option maxRecDepth 100000 in
set_option maxHeartbeats 1000000 in
theorem roomyRecords_any (l : List RI) (a : Option Addr) (c N : Nat) (w : World) (hrow : RowAt w N a (rcI l)) (hN : N ≤ w.heap.size) (hn : l.length * 56 ≤ 140737488351232) :
    Calls Try.prog 22 #[.slice a l.length c] w fun e w' => (∃ v, e = .returned v ∧ RoomR w' w.heap.size v l) ∧ Below w.heap.size w w' := by
  obtain ⟨i0, hi, hz0, hz1, hz2⟩ := info_parts Try.info62
  have Hi := hide hi
  have Hz0 := hide hz0
  have Hz1 := hide hz1
  have Hz2 := hide hz2
  have HRow := hide (fun W (hb : Below N w W) => hrow.below hb)
  clear hi hz0 hz1 hz2 hrow
  obtain ⟨n, hln⟩ : ∃ n, l.length = n := ⟨_, rfl⟩
  rw [hln] at hn ⊢
  have hcl := rcI_len l
  rw [hln] at hcl
  have HCl := hide hcl
  have HLn := hide hln
  clear hcl hln
  go_enter Try.func22, Try.ntmps22
  have hmt := made_tail #[.string ⟨#[]⟩, .int .i64 0, .int .i64 0, .int .i64 0, .string ⟨#[]⟩] n 5 rfl (by decide)
  have hms : (madeCells #[.string ⟨#[]⟩, .int .i64 0, .int .i64 0, .int .i64 0, .string ⟨#[]⟩] ((n + 1) * 5)).size = (n + 1) * 5 := size_madeCells _ _
  have HMt := hide hmt
  have HMs := hide hms
  have HOne := hide (rcI_one l)
  obtain ⟨g, hg⟩ : ∃ g, w.heap.size = g := ⟨_, rfl⟩
  clear hmt hms
  go_wp2_with (at_make; refine wpList_make_full _ rfl _ _ 23 rfl w.heap.size 62 i0 (.agg #[.string ⟨#[]⟩, .int .i64 0, .int .i64 0, .int .i64 0, .string ⟨#[]⟩]) 5 Try.underlying23 (unhide Hi) (unhide Hz0) (unhide Hz1) .i64 .i64 ((n : Int) + 1) ((n : Int) + 1) (n + 1) (by rfl) (by rfl) (by omega) (by omega) (by rw [unhide Hz2]; omega) (by unfold maxLen; omega) (Nat.le_refl _) ?_; intro w1 hown1 hgrow1; have hg1 := owns_full hown1; rw [hg, Array.toArray_toList] at hg1; have HG1 : Hid (w1.heap[g]? = some (.cells (madeCells #[.string ⟨#[]⟩, .int .i64 0, .int .i64 0, .int .i64 0, .string ⟨#[]⟩] ((n + 1) * 5)) 62 (0, 0))) := hg1; have hB1 : Below w.heap.size w w1 := ⟨hgrow1.os, hgrow1.tape, hgrow1.output, hgrow1.size, fun k hk => hgrow1.block k hk (by simp)⟩; clear hown1 hgrow1 hg1; rw [hg])
  have hfit : (rcI l).length ≤ (madeCells #[.string ⟨#[]⟩, .int .i64 0, .int .i64 0, .int .i64 0, .string ⟨#[]⟩] ((n + 1) * 5)).size := by rw [unhide HCl, unhide HMs]; omega
  have hlen5 : (rcI l).length = n * i0.size := by rw [unhide Hz1]; exact unhide HCl
  obtain ⟨w2, hw2⟩ : ∃ w2, w1.setRow g (rcI l ++ (madeCells #[.string ⟨#[]⟩, .int .i64 0, .int .i64 0, .int .i64 0, .string ⟨#[]⟩] ((n + 1) * 5)).toList.drop (rcI l).length).toArray = w2 := ⟨_, rfl⟩
  have hg2 := setRow_heap w1 g _ (rcI l ++ (madeCells #[.string ⟨#[]⟩, .int .i64 0, .int .i64 0, .int .i64 0, .string ⟨#[]⟩] ((n + 1) * 5)).toList.drop (rcI l).length).toArray 62 _ (unhide HG1)
  have hB2 := below_setRow hB1 (show w.heap.size ≤ g by omega) (rcI l ++ (madeCells #[.string ⟨#[]⟩, .int .i64 0, .int .i64 0, .int .i64 0, .string ⟨#[]⟩] ((n + 1) * 5)).toList.drop (rcI l).length).toArray
  rw [hw2] at hg2 hB2
  rw [run_copy_wide w1 23 23 3 62 i0 g (n + 1) (n + 1) a n c _ 62 (rcI l) Try.underlying23 (unhide Hi) (unhide HG1) hlen5 (by omega) (unhide HRow _ (hB1.mono hN)).addr hfit (unhide HOne), hw2]
  have hg3 : w2.heap[g]? = some (.cells (rcI l ++ ([Value.string ⟨#[]⟩, Value.int .i64 0, Value.int .i64 0, Value.int .i64 0, Value.string ⟨#[]⟩] : List Value)).toArray 62 (0, 0)) := by
    rw [hg2, unhide HCl, unhide HMt]
  have cc := (cell_of_blk hg3 (n * 5 + 1)).trans (at_mark _ _ _ _ _ (unhide HCl))
  have zz := frozen_of_blk hg3 (n * 5 + 1)
  have HG3 := hide hg3
  clear hg2 hg3 hfit hlen5 hB1 hw2
  go_wp2_with fail
  go_ret
  refine ⟨⟨_, rfl, g, by rw [unhide HLn]; rfl, by omega, ?_⟩, hB2.setCell (show w.heap.size ≤ g by omega) _⟩
  have hfin := blk_set (unhide HG3) (n * 5 + 1) (.int .i64 77)
  rw [set_mark _ _ _ _ _ _ (unhide HCl)] at hfin
  exact hfin

end Go.Proofs.Ytgpgllbakfgocaa
