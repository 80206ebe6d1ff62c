/-
  Walks over the law: what the owner writes into a list, and reads again.
-/
import Derived.Test.YtdhobdmhnocbgaaLawA
namespace Go.Proofs.Ytdhobdmhnocbgaa
open Go.RowKit Zr

/-- Each element's second cell holds the mark. -/
def Marked (w : World) (e : TypeId) (size : Nat) (a : Option Addr) (n c : Nat) (mark : Int) : Prop :=
  n = 0 ∨ ∃ g cur, a = some ⟨g, 0, none⟩ ∧ w.heap[g]? = some (.cells cur e (0, 0)) ∧ cur.size = c * size ∧ n ≤ c ∧ ∀ k, k < n → cur[k * size + 1]? = some (.int .i64 mark)

theorem Marked.keep {w w' : World} {e : TypeId} {size : Nat} {a : Option Addr} {n c : Nat} {mark : Int} {row : Option Nat} (h : Marked w e size a n c mark) (hg : Grew w w' row) (hne : (Value.slice a n c).ownBlock = none ∨ (Value.slice a n c).ownBlock ≠ row) : Marked w' e size a n c mark := by
  rcases h with h | ⟨g, cur, rfl, h2, h3⟩
  · exact .inl h
  · refine .inr ⟨g, cur, rfl, ?_, h3⟩
    rw [hg.block g (blk_lt h2) (fun e => by
      rcases hne with h1 | h1
      · simp [Value.ownBlock] at h1
      · exact h1 e)]
    exact h2

theorem Grew.trans {a b c : World} {row : Option Nat} (h : Grew a b row) (k : Grew b c row) : Grew a c row :=
  ⟨k.os.trans h.os, k.output.trans h.output, Nat.le_trans h.size k.size, fun i hi hr => (k.block i (Nat.lt_of_lt_of_le hi h.size) hr).trans (h.block i hi hr)⟩
theorem Grew.set (w : World) (R o : Nat) (v : Value) : Grew w (w.setCell ⟨R, o, none⟩ v) (some R) :=
  ⟨rfl, rfl, by rw [size_set]; exact Nat.le_refl _, fun _ _ hk => blk_set_other (fun e => hk (by rw [e])) _ _⟩

theorem cells_at {w : World} {g : Nat} {cur : Array Value} {e : TypeId} (h : w.heap[g]? = some (.cells cur e (0, 0))) (j : Nat) (hj : j < cur.size) : ∃ v, w.cell? ⟨g, j, none⟩ = some v := ⟨cur[j], by rw [cell_of_blk h]; simp [hj]⟩

/-- Five cells of a row, stored. -/
theorem set5 {w : World} {g : Nat} {cur : Array Value} {e : TypeId} (h : w.heap[g]? = some (.cells cur e (0, 0))) (o : Nat) (v0 v1 v2 v3 v4 : Value) :
    (((((w.setCell ⟨g, o, none⟩ v0).setCell ⟨g, o + 1, none⟩ v1).setCell ⟨g, o + 2, none⟩ v2).setCell ⟨g, o + 3, none⟩ v3).setCell ⟨g, o + 4, none⟩ v4).heap[g]? =
      some (.cells (((((cur.setIfInBounds o v0).setIfInBounds (o + 1) v1).setIfInBounds (o + 2) v2).setIfInBounds (o + 3) v3).setIfInBounds (o + 4) v4) e (0, 0)) := by
  rw [blk_set (blk_set (blk_set (blk_set (blk_set h _ _) _ _) _ _) _ _) _ _]
theorem set3 {w : World} {g : Nat} {cur : Array Value} {e : TypeId} (h : w.heap[g]? = some (.cells cur e (0, 0))) (o : Nat) (v0 v1 v2 : Value) :
    (((w.setCell ⟨g, o, none⟩ v0).setCell ⟨g, o + 1, none⟩ v1).setCell ⟨g, o + 2, none⟩ v2).heap[g]? =
      some (.cells (((cur.setIfInBounds o v0).setIfInBounds (o + 1) v1).setIfInBounds (o + 2) v2) e (0, 0)) := by
  rw [blk_set (blk_set (blk_set h _ _) _ _) _ _]

theorem mark5 (cur : Array Value) (o : Nat) (v0 v1 v2 v3 v4 : Value) (i : Nat) : (((((cur.setIfInBounds o v0).setIfInBounds (o + 1) v1).setIfInBounds (o + 2) v2).setIfInBounds (o + 3) v3).setIfInBounds (o + 4) v4)[i]? =
    if i = o + 1 ∧ i < cur.size then some v1 else if o ≤ i ∧ i < o + 5 then (((((cur.setIfInBounds o v0).setIfInBounds (o + 1) v1).setIfInBounds (o + 2) v2).setIfInBounds (o + 3) v3).setIfInBounds (o + 4) v4)[i]? else cur[i]? := by
  by_cases h1 : i = o + 1 ∧ i < cur.size
  · rw [if_pos h1]
    obtain ⟨rfl, h⟩ := h1
    simp [h]
  · rw [if_neg h1]
    by_cases h2 : o ≤ i ∧ i < o + 5
    · rw [if_pos h2]
    · rw [if_neg h2]
      simp only [Array.getElem?_setIfInBounds]
      rw [if_neg (by omega), if_neg (by omega), if_neg (by omega), if_neg (by omega), if_neg (by omega)]
theorem mark3 (cur : Array Value) (o : Nat) (v0 v1 v2 : Value) (i : Nat) : (((cur.setIfInBounds o v0).setIfInBounds (o + 1) v1).setIfInBounds (o + 2) v2)[i]? =
    if i = o + 1 ∧ i < cur.size then some v1 else if o ≤ i ∧ i < o + 3 then (((cur.setIfInBounds o v0).setIfInBounds (o + 1) v1).setIfInBounds (o + 2) v2)[i]? else cur[i]? := by
  by_cases h1 : i = o + 1 ∧ i < cur.size
  · rw [if_pos h1]
    obtain ⟨rfl, h⟩ := h1
    simp [h]
  · rw [if_neg h1]
    by_cases h2 : o ≤ i ∧ i < o + 3
    · rw [if_pos h2]
    · rw [if_neg h2]
      simp only [Array.getElem?_setIfInBounds]
      rw [if_neg (by omega), if_neg (by omega), if_neg (by omega)]

set_option maxRecDepth 100000 in
set_option maxHeartbeats 1000000 in
theorem full_any (a : Option Addr) (n c N : Nat) (xs : List Value) (mark : Int) (w : World) (hown : w.ownsRow N 86 5 (.slice a n c) n xs) (hn : n ≤ 65535) :
    Calls Try.prog 80 #[.slice a n c, .int .i64 mark] w fun e w' => e = .returned (.tuple #[]) ∧ Marked w' 86 5 a n c mark ∧ Grew w w' (Value.slice a n c).ownBlock := by
  rcases hown.2 with ⟨h1, h2⟩ | ⟨g, cap, cur0, h1, h2, h3, h4, h5, h6, h7⟩
  · cases h1
    clear hown
    go_enter Try.func80, Try.ntmps80
    go_wp2_with fail
    refine wp_loop_rounds 1 ?_; rw [rounds_succ]
    go_wp2_with fail
    go_end0
    exact ⟨rfl, .inl rfl, Grew.refl _ _⟩
  · cases h1
    have H3 := hide h3
    unfold maxLen at h5
    have H6 := hide h6
    have hsz : cur0.size = c * 5 := h6
    clear hown h3 h6 h7 hsz
    go_enter Try.func80, Try.ntmps80
    go_wp2_with fail
    go_loopg [4] (n + 1) (fun gk i w' => ∃ (j : Nat) (cur : Array Value), i = .int .i64 j ∧ j ≤ n ∧ gk = n + 1 - j ∧ Hid (w'.heap[g]? = some (.cells cur 86 (0, 0))) ∧ Hid (cur.size = c * 5) ∧ Hid (∀ k, k < j → cur[k * 5 + 1]? = some (.int .i64 mark)) ∧ Hid (Grew w w' (some g)))
    case atStart => exact ⟨0, cur0, rfl, Nat.zero_le _, rfl, H3, H6, fun k hk => by omega, Grew.refl _ _⟩
    case round =>
      obtain ⟨j, cur, rfl, hj, hg, hB, hS, hm, hG⟩ := hrel
      by_cases cj : j < n
      · have hs := unhide hS
        obtain ⟨z0, c0⟩ := cells_at (unhide hB) (j * 5) (by omega)
        obtain ⟨z1, c1⟩ := cells_at (unhide hB) (j * 5 + 1) (by omega)
        obtain ⟨z2, c2⟩ := cells_at (unhide hB) (j * 5 + 2) (by omega)
        obtain ⟨z3, c3⟩ := cells_at (unhide hB) (j * 5 + 3) (by omega)
        obtain ⟨z4, c4⟩ := cells_at (unhide hB) (j * 5 + 4) (by omega)
        have f0 := frozen_of_blk (unhide hB) (j * 5)
        have f1 := frozen_of_blk (unhide hB) (j * 5 + 1)
        have f2 := frozen_of_blk (unhide hB) (j * 5 + 2)
        have f3 := frozen_of_blk (unhide hB) (j * 5 + 3)
        have f4 := frozen_of_blk (unhide hB) (j * 5 + 4)
        have hlt := blk_lt (unhide hB)
        clear hs
        go_wp2_with fail
        go_roundg (n + 1 - (j + 1))
        case measure => omega
        case rel =>
          refine ⟨j + 1, _, by go_num, by omega, rfl, set5 (unhide hB) (j * 5) _ _ _ _ _, ?_, ?_, ?_⟩
          · show _ = _
            simp only [Array.size_setIfInBounds]; exact unhide hS
          · intro k hk
            have hs := unhide hS
            rw [mark5]
            by_cases hkj : k = j
            · subst hkj
              rw [if_pos ⟨rfl, by omega⟩]
            · rw [if_neg (by omega), if_neg (by omega)]
              exact unhide hm k (by omega)
          · exact (((((unhide hG).trans (Grew.set _ _ _ _)).trans (Grew.set _ _ _ _)).trans (Grew.set _ _ _ _)).trans (Grew.set _ _ _ _)).trans (Grew.set _ _ _ _)
      · have hjn : j = n := by omega
        subst hjn
        go_wp2_with fail
        go_end0
        exact ⟨rfl, .inr ⟨g, cur, rfl, unhide hB, unhide hS, h4, unhide hm⟩, unhide hG⟩

set_option maxRecDepth 100000 in
set_option maxHeartbeats 1000000 in
theorem reads_any (a : Option Addr) (n c : Nat) (mark : Int) (w : World) (hM : Marked w 86 5 a n c mark) (hn : n ≤ 65535) :
    Calls Try.prog 81 #[.slice a n c, .int .i64 mark] w fun e w' => e = .returned (.bool true) ∧ w' = w := by
  rcases hM with h | ⟨g, cur, rfl, h2, h3, h4, h5⟩
  · subst h
    go_enter Try.func81, Try.ntmps81
    go_wp2_with fail
    refine wp_loop_rounds 1 ?_; rw [rounds_succ]
    go_wp2_with fail
    go_ret
    exact ⟨rfl, rfl⟩
  · have hcell : ∀ k, k < n → w.cell? ⟨g, k * 5 + 1, none⟩ = some (.int .i64 mark) := fun k hk => by rw [cell_of_blk h2]; exact h5 k hk
    have HC := hide hcell
    clear hcell h2 h3 h5
    have hmm : (mark != mark) = false := by simp
    go_enter Try.func81, Try.ntmps81
    go_wp2_with fail
    go_loop [5] (fun i => ∃ j : Nat, j ≤ n ∧ i = .int .i64 j) (fun i => n - (intOf i).toNat)
    case atStart => exact ⟨0, Nat.zero_le _, rfl⟩
    case round =>
      obtain ⟨j, hj, rfl⟩ := hrel
      by_cases cj : j < n
      · have hc := unhide HC j cj
        go_wp2_with fail
        go_round
        case rel => exact ⟨j + 1, by omega, by go_num⟩
        case measure => simp [intOf]; omega
      · go_wp2_with fail
        go_ret
        exact ⟨rfl, rfl⟩

end Go.Proofs.Ytdhobdmhnocbgaa
