/-
  Walks over the law: what the owner writes behind the end of a list.
-/
/-
  Walks over the law: what the owner writes into a list, and reads again.
-/
/-
  Walks over the law: lists that are the same.
-/
import Derived.Test.YtdhobdmhnocbgaaSRefE
import Derived.Deep.Upon
import Derived.Deep.QuietTactic
import Derived.BigQuiet
namespace Go.Proofs.Ytdhobdmhnocbgaa
open Go.RowKit Zr

/-- Only one block that was there may have turned. -/
structure Grew (w w' : World) (row : Option Nat) : Prop where
  os : w'.os = w.os
  output : w'.output = w.output
  size : w.heap.size ≤ w'.heap.size
  block : ∀ k, k < w.heap.size → some k ≠ row → w'.heap[k]? = w.heap[k]?

theorem Grew.refl (w : World) (row : Option Nat) : Grew w w row := ⟨rfl, rfl, Nat.le_refl _, fun _ _ _ => rfl⟩
theorem Grew.of_below {w w' : World} (h : Below w.heap.size w w') : Grew w w' none := ⟨h.os, h.output, h.size, fun k hk _ => h.block k hk⟩
theorem Grew.of_drewN (w : World) (n : Nat) : Grew w (w.drewN n) none := ⟨rfl, rfl, Nat.le_refl _, fun _ _ _ => rfl⟩
theorem Grew.owns {w w' : World} {row : Option Nat} {N : Nat} {e : TypeId} {size : Nat} {v : Value} {n : Nat} {xs : List Value} (hg : Grew w w' row) (h : w.ownsRow N e size v n xs) (hne : v.ownBlock = none ∨ v.ownBlock ≠ row) : w'.ownsRow N e size v n xs := by
  refine ⟨h.1, ?_⟩
  rcases h.2 with hn | ⟨g, cap, cur, rfl, hb, hgg, rest⟩
  · exact .inl hn
  · refine .inr ⟨g, cap, cur, rfl, hb, ?_, rest⟩
    rw [hg.block g (blk_lt hgg) (fun e => by
      rcases hne with h1 | h1
      · simp [Value.ownBlock] at h1
      · exact h1 e)]
    exact hgg

/-- A row of the call's own, as a slice that came in. -/
theorem came_of {w : World} {N : Nat} {e : TypeId} {size : Nat} {a : Option Addr} {n c : Nat} {xs : List Value} (h : w.ownsRow N e size (.slice a n c) n xs) : Came w size a ((a.map Addr.block).getD 0) 0 n c xs := by
  rcases h.2 with ⟨h1, h2⟩ | ⟨g, cap, cur, h1, h2, h3, h4, h5, h6, h7⟩
  · cases h1
    have hx : xs = [] := List.eq_nil_of_length_eq_zero (by rw [h.1]; simp)
    subst hx
    exact ⟨Nat.le_refl _, fun h => by omega, fun h => by omega, by simp, fun j u hu => by simp at hu, fun j hj => by simp at hj⟩
  · cases h1
    refine ⟨h4, fun _ => rfl, fun _ => blk_lt h3, h.1, fun j u hu => ?_, fun j hj => ?_⟩
    · simp only [Option.map_some, Option.getD_some, Nat.zero_add]
      exact owns_cell h j u hu
    · simp only [Option.map_some, Option.getD_some, Nat.zero_add]
      have hlt : n * size + j < cur.size := by
        rw [h6]
        have : (c - n) * size = c * size - n * size := Nat.sub_mul _ _ _
        omega
      refine ⟨?_, frozen_of_blk h3 _⟩
      rw [cell_of_blk h3]
      simp [hlt]

/-- Behind so many appends: the row reads as it did; nothing else has turned. -/
theorem upon_owns {w wr : World} {N : Nat} {e : TypeId} {size : Nat} {a : Option Addr} {n c : Nat} {xs : List Value} {v : Value} {m r : Nat} {ks : List Value} (h : w.ownsRow N e size (.slice a n c) n xs) (hu : Upon w e size a ((a.map Addr.block).getD 0) 0 n c xs wr v m ks r) :
    wr.ownsRow N e size (.slice a n c) n xs ∧ Grew w wr (Value.slice a n c).ownBlock := by
  have hk := hu.kept
  have hr := hu.rFit
  rcases h.2 with ⟨h1, h2⟩ | ⟨g, cap, cur, h1, h2, h3, h4, h5, h6, h7⟩
  · cases h1
    refine ⟨⟨h.1, .inl ⟨rfl, rfl⟩⟩, hk.1, hk.2.1, hk.size, fun k hlt _ => hk.block hlt (fun p hp => ?_)⟩
    obtain ⟨j, hj, _⟩ := hp
    simp at hr
    omega
  · cases h1
    simp only [Option.map_some, Option.getD_some, Nat.zero_add] at hk
    refine ⟨⟨h.1, .inr ?_⟩, hk.1, hk.2.1, hk.size, fun k hlt hne => hk.block hlt (fun p hp => ?_)⟩
    · have hb := hk.2.2 g (blk_lt h3)
      rw [h3] at hb
      cases hw : wr.heap[g]? with
      | none => rw [hw] at hb; simp at hb
      | some o =>
        rw [hw] at hb
        cases o with
        | cells c' t' fr' =>
          simp only at hb
          obtain ⟨rfl, rfl, hs, hc⟩ := hb
          refine ⟨g, c, c', rfl, h2, hw, h4, h5, by rw [hs, h6], ?_⟩
          rw [← h7]
          apply List.ext_getElem?
          intro j
          by_cases hj : j < n * size
          · rw [List.getElem?_take_of_lt hj, List.getElem?_take_of_lt hj]
            have := hc j (fun ⟨i, _, he⟩ => by
              have : j = n * size + i := by simpa using he
              omega)
            simpa using this
          · rw [List.getElem?_eq_none (by simp; omega), List.getElem?_eq_none (by simp; omega)]
        | pending c' t' => simp at hb
        | view a' t' => simp at hb
        | number a' l' => simp at hb
        | map es cl => simp at hb
        | chan c' b' d' s' r' t' => simp at hb
        | stringIter s' p' => simp at hb
        | mapIter m' s' e' t' => simp at hb
        | loop l' => simp at hb
        | deferred d' => simp at hb
        | coro p' => simp at hb
        | finalizers f' r' => simp at hb
    · obtain ⟨j, _, rfl⟩ := hp
      intro e
      exact hne (by simp [Value.ownBlock]; exact e.symm)

set_option maxRecDepth 100000 in
set_option maxHeartbeats 1000000 in
theorem behind_any (a : Option Addr) (n c N : Nat) (xs : List Value) (w : World) (hown : w.ownsRow N 86 5 (.slice a n c) n xs) (hn : n ≤ 65535) :
    Calls Try.prog 79 #[.slice a n c] w fun e w' => e = .returned (.tuple #[]) ∧ w'.ownsRow N 86 5 (.slice a n c) n xs ∧ Grew w w' (Value.slice a n c).ownBlock := by
  obtain ⟨i0, hi, hz0, hz1, hz2⟩ := info_parts Try.info86
  have Hi := hide hi
  have Hz0 := hide hz0
  have Hz1 := hide hz1
  have Hz2 := hide hz2
  clear hi hz0 hz1 hz2
  have hC := hide (came_of hown)
  have HO := hide hown
  clear hown
  go_enter Try.func79, Try.ntmps79
  go_wp2_with fail
  go_loopg [0, 2] 10 (fun g v i w' => ∃ (j : Nat) (ks : List Value) (r : Nat), i = .int .i64 j ∧ j ≤ 9 ∧ g = 10 - j ∧ Hid (Upon w 86 5 a ((a.map Addr.block).getD 0) 0 n c xs w' v j ks r))
  case atStart => exact ⟨0, [], 0, rfl, by omega, rfl, Upon.start (unhide hC)⟩
  case round =>
    obtain ⟨j, ks, r, rfl, hj, hg, hU⟩ := hrel
    by_cases cj : j < 9
    · go_wp2_with (at_builtin; refine wpList_append_upon _ rfl _ _ 23 23 rfl (unhide hC) i0 (.agg #[.string ⟨#[]⟩, .int .i64 0, .int .i64 0, .int .i64 0, .string ⟨#[]⟩]) 56 Try.underlying23 (unhide Hi) (unhide Hz0) (unhide Hz1) (unhide Hz2) rfl (by rfl) ((unhide hU).alloc (unhide hC) _) (.slice (some ⟨wr.heap.size, 0, none⟩) 1 1) 1 [.string ⟨#[]⟩, .int .i64 77, .int .i64 0, .int .i64 0, .string ⟨#[]⟩] (by rfl) (Src.ofSlice _ Try.underlying23 ⟨wr.heap.size, 0, none⟩ 1 1 _ rfl (cell_five_new _ _ _ _ _ _ _ _ rfl) (fun x hx => by simp at hx; rcases hx with rfl | rfl | rfl | rfl | rfl <;> rfl)) (by unfold maxLen; omega) (by omega) ?_; intro v3 w3 hU3)
      go_roundg (10 - (j + 1))
      case measure => omega
      case rel => exact ⟨j + 1, _, _, by go_num, by omega, rfl, hU3⟩
    · go_wp2_with fail
      go_end0
      exact ⟨rfl, upon_owns (unhide HO) (unhide hU)⟩

end Go.Proofs.Ytdhobdmhnocbgaa

namespace Go.Proofs.Ytdhobdmhnocbgaa
open Go.RowKit Zr

/-- Each element's second cell holds the mark. -/
def Marked (w : World) (e : TypeId) (size : Nat) (a : Option Addr) (n c : Nat) (mark : Int) : Prop :=
  n = 0 ∨ ∃ g cur, a = some ⟨g, 0, none⟩ ∧ w.heap[g]? = some (.cells cur e (0, 0)) ∧ cur.size = c * size ∧ n ≤ c ∧ ∀ k, k < n → cur[k * size + 1]? = some (.int .i64 mark)

theorem Marked.keep {w w' : World} {e : TypeId} {size : Nat} {a : Option Addr} {n c : Nat} {mark : Int} {row : Option Nat} (h : Marked w e size a n c mark) (hg : Grew w w' row) (hne : (Value.slice a n c).ownBlock = none ∨ (Value.slice a n c).ownBlock ≠ row) : Marked w' e size a n c mark := by
  rcases h with h | ⟨g, cur, rfl, h2, h3⟩
  · exact .inl h
  · refine .inr ⟨g, cur, rfl, ?_, h3⟩
    rw [hg.block g (blk_lt h2) (fun e => by
      rcases hne with h1 | h1
      · simp [Value.ownBlock] at h1
      · exact h1 e)]
    exact h2

theorem Grew.trans {a b c : World} {row : Option Nat} (h : Grew a b row) (k : Grew b c row) : Grew a c row :=
  ⟨k.os.trans h.os, k.output.trans h.output, Nat.le_trans h.size k.size, fun i hi hr => (k.block i (Nat.lt_of_lt_of_le hi h.size) hr).trans (h.block i hi hr)⟩
theorem Grew.set (w : World) (R o : Nat) (v : Value) : Grew w (w.setCell ⟨R, o, none⟩ v) (some R) :=
  ⟨rfl, rfl, by rw [size_set]; exact Nat.le_refl _, fun _ _ hk => blk_set_other (fun e => hk (by rw [e])) _ _⟩

theorem cells_at {w : World} {g : Nat} {cur : Array Value} {e : TypeId} (h : w.heap[g]? = some (.cells cur e (0, 0))) (j : Nat) (hj : j < cur.size) : ∃ v, w.cell? ⟨g, j, none⟩ = some v := ⟨cur[j], by rw [cell_of_blk h]; simp [hj]⟩

/-- Five cells of a row, stored. -/
theorem set5 {w : World} {g : Nat} {cur : Array Value} {e : TypeId} (h : w.heap[g]? = some (.cells cur e (0, 0))) (o : Nat) (v0 v1 v2 v3 v4 : Value) :
    (((((w.setCell ⟨g, o, none⟩ v0).setCell ⟨g, o + 1, none⟩ v1).setCell ⟨g, o + 2, none⟩ v2).setCell ⟨g, o + 3, none⟩ v3).setCell ⟨g, o + 4, none⟩ v4).heap[g]? =
      some (.cells (((((cur.setIfInBounds o v0).setIfInBounds (o + 1) v1).setIfInBounds (o + 2) v2).setIfInBounds (o + 3) v3).setIfInBounds (o + 4) v4) e (0, 0)) := by
  rw [blk_set (blk_set (blk_set (blk_set (blk_set h _ _) _ _) _ _) _ _) _ _]
theorem set3 {w : World} {g : Nat} {cur : Array Value} {e : TypeId} (h : w.heap[g]? = some (.cells cur e (0, 0))) (o : Nat) (v0 v1 v2 : Value) :
    (((w.setCell ⟨g, o, none⟩ v0).setCell ⟨g, o + 1, none⟩ v1).setCell ⟨g, o + 2, none⟩ v2).heap[g]? =
      some (.cells (((cur.setIfInBounds o v0).setIfInBounds (o + 1) v1).setIfInBounds (o + 2) v2) e (0, 0)) := by
  rw [blk_set (blk_set (blk_set h _ _) _ _) _ _]

theorem mark5 (cur : Array Value) (o : Nat) (v0 v1 v2 v3 v4 : Value) (i : Nat) : (((((cur.setIfInBounds o v0).setIfInBounds (o + 1) v1).setIfInBounds (o + 2) v2).setIfInBounds (o + 3) v3).setIfInBounds (o + 4) v4)[i]? =
    if i = o + 1 ∧ i < cur.size then some v1 else if o ≤ i ∧ i < o + 5 then (((((cur.setIfInBounds o v0).setIfInBounds (o + 1) v1).setIfInBounds (o + 2) v2).setIfInBounds (o + 3) v3).setIfInBounds (o + 4) v4)[i]? else cur[i]? := by
  by_cases h1 : i = o + 1 ∧ i < cur.size
  · rw [if_pos h1]
    obtain ⟨rfl, h⟩ := h1
    simp [h]
  · rw [if_neg h1]
    by_cases h2 : o ≤ i ∧ i < o + 5
    · rw [if_pos h2]
    · rw [if_neg h2]
      simp only [Array.getElem?_setIfInBounds]
      rw [if_neg (by omega), if_neg (by omega), if_neg (by omega), if_neg (by omega), if_neg (by omega)]
theorem mark3 (cur : Array Value) (o : Nat) (v0 v1 v2 : Value) (i : Nat) : (((cur.setIfInBounds o v0).setIfInBounds (o + 1) v1).setIfInBounds (o + 2) v2)[i]? =
    if i = o + 1 ∧ i < cur.size then some v1 else if o ≤ i ∧ i < o + 3 then (((cur.setIfInBounds o v0).setIfInBounds (o + 1) v1).setIfInBounds (o + 2) v2)[i]? else cur[i]? := by
  by_cases h1 : i = o + 1 ∧ i < cur.size
  · rw [if_pos h1]
    obtain ⟨rfl, h⟩ := h1
    simp [h]
  · rw [if_neg h1]
    by_cases h2 : o ≤ i ∧ i < o + 3
    · rw [if_pos h2]
    · rw [if_neg h2]
      simp only [Array.getElem?_setIfInBounds]
      rw [if_neg (by omega), if_neg (by omega), if_neg (by omega)]

set_option maxRecDepth 100000 in
set_option maxHeartbeats 1000000 in
theorem full_any (a : Option Addr) (n c N : Nat) (xs : List Value) (mark : Int) (w : World) (hown : w.ownsRow N 86 5 (.slice a n c) n xs) (hn : n ≤ 65535) :
    Calls Try.prog 80 #[.slice a n c, .int .i64 mark] w fun e w' => e = .returned (.tuple #[]) ∧ Marked w' 86 5 a n c mark ∧ Grew w w' (Value.slice a n c).ownBlock := by
  rcases hown.2 with ⟨h1, h2⟩ | ⟨g, cap, cur0, h1, h2, h3, h4, h5, h6, h7⟩
  · cases h1
    clear hown
    go_enter Try.func80, Try.ntmps80
    go_wp2_with fail
    refine wp_loop_rounds 1 ?_; rw [rounds_succ]
    go_wp2_with fail
    go_end0
    exact ⟨rfl, .inl rfl, Grew.refl _ _⟩
  · cases h1
    have H3 := hide h3
    unfold maxLen at h5
    have H6 := hide h6
    have hsz : cur0.size = c * 5 := h6
    clear hown h3 h6 h7 hsz
    go_enter Try.func80, Try.ntmps80
    go_wp2_with fail
    go_loopg [4] (n + 1) (fun gk i w' => ∃ (j : Nat) (cur : Array Value), i = .int .i64 j ∧ j ≤ n ∧ gk = n + 1 - j ∧ Hid (w'.heap[g]? = some (.cells cur 86 (0, 0))) ∧ Hid (cur.size = c * 5) ∧ Hid (∀ k, k < j → cur[k * 5 + 1]? = some (.int .i64 mark)) ∧ Hid (Grew w w' (some g)))
    case atStart => exact ⟨0, cur0, rfl, Nat.zero_le _, rfl, H3, H6, fun k hk => by omega, Grew.refl _ _⟩
    case round =>
      obtain ⟨j, cur, rfl, hj, hg, hB, hS, hm, hG⟩ := hrel
      by_cases cj : j < n
      · have hs := unhide hS
        obtain ⟨z0, c0⟩ := cells_at (unhide hB) (j * 5) (by omega)
        obtain ⟨z1, c1⟩ := cells_at (unhide hB) (j * 5 + 1) (by omega)
        obtain ⟨z2, c2⟩ := cells_at (unhide hB) (j * 5 + 2) (by omega)
        obtain ⟨z3, c3⟩ := cells_at (unhide hB) (j * 5 + 3) (by omega)
        obtain ⟨z4, c4⟩ := cells_at (unhide hB) (j * 5 + 4) (by omega)
        have f0 := frozen_of_blk (unhide hB) (j * 5)
        have f1 := frozen_of_blk (unhide hB) (j * 5 + 1)
        have f2 := frozen_of_blk (unhide hB) (j * 5 + 2)
        have f3 := frozen_of_blk (unhide hB) (j * 5 + 3)
        have f4 := frozen_of_blk (unhide hB) (j * 5 + 4)
        have hlt := blk_lt (unhide hB)
        clear hs
        go_wp2_with fail
        go_roundg (n + 1 - (j + 1))
        case measure => omega
        case rel =>
          refine ⟨j + 1, _, by go_num, by omega, rfl, set5 (unhide hB) (j * 5) _ _ _ _ _, ?_, ?_, ?_⟩
          · show _ = _
            simp only [Array.size_setIfInBounds]; exact unhide hS
          · intro k hk
            have hs := unhide hS
            rw [mark5]
            by_cases hkj : k = j
            · subst hkj
              rw [if_pos ⟨rfl, by omega⟩]
            · rw [if_neg (by omega), if_neg (by omega)]
              exact unhide hm k (by omega)
          · exact (((((unhide hG).trans (Grew.set _ _ _ _)).trans (Grew.set _ _ _ _)).trans (Grew.set _ _ _ _)).trans (Grew.set _ _ _ _)).trans (Grew.set _ _ _ _)
      · have hjn : j = n := by omega
        subst hjn
        go_wp2_with fail
        go_end0
        exact ⟨rfl, .inr ⟨g, cur, rfl, unhide hB, unhide hS, h4, unhide hm⟩, unhide hG⟩

set_option maxRecDepth 100000 in
set_option maxHeartbeats 1000000 in
theorem reads_any (a : Option Addr) (n c : Nat) (mark : Int) (w : World) (hM : Marked w 86 5 a n c mark) (hn : n ≤ 65535) :
    Calls Try.prog 81 #[.slice a n c, .int .i64 mark] w fun e w' => e = .returned (.bool true) ∧ w' = w := by
  rcases hM with h | ⟨g, cur, rfl, h2, h3, h4, h5⟩
  · subst h
    go_enter Try.func81, Try.ntmps81
    go_wp2_with fail
    refine wp_loop_rounds 1 ?_; rw [rounds_succ]
    go_wp2_with fail
    go_ret
    exact ⟨rfl, rfl⟩
  · have hcell : ∀ k, k < n → w.cell? ⟨g, k * 5 + 1, none⟩ = some (.int .i64 mark) := fun k hk => by rw [cell_of_blk h2]; exact h5 k hk
    have HC := hide hcell
    clear hcell h2 h3 h5
    have hmm : (mark != mark) = false := by simp
    go_enter Try.func81, Try.ntmps81
    go_wp2_with fail
    go_loop [5] (fun i => ∃ j : Nat, j ≤ n ∧ i = .int .i64 j) (fun i => n - (intOf i).toNat)
    case atStart => exact ⟨0, Nat.zero_le _, rfl⟩
    case round =>
      obtain ⟨j, hj, rfl⟩ := hrel
      by_cases cj : j < n
      · have hc := unhide HC j cj
        go_wp2_with fail
        go_round
        case rel => exact ⟨j + 1, by omega, by go_num⟩
        case measure => simp [intOf]; omega
      · go_wp2_with fail
        go_ret
        exact ⟨rfl, rfl⟩

end Go.Proofs.Ytdhobdmhnocbgaa

namespace Go.Proofs.Ytdhobdmhnocbgaa
open Go.RowKit Zr

set_option maxRecDepth 100000 in
set_option maxHeartbeats 1000000 in
theorem sameQuestions_true (l : List Qs) (a a' : Option Addr) (c c' N N' : Nat) (w : World) (h1 : w.ownsRow N 74 3 (.slice a l.length c) l.length (qcells l)) (h2 : w.ownsRow N' 74 3 (.slice a' l.length c') l.length (qcells l)) (hn : l.length ≤ 65535) :
    Calls Try.prog 78 #[.slice a l.length c, .slice a' l.length c'] w fun e w' => e = .returned (.bool true) ∧ ∃ n, w' = w.drewN n := by
  have H1 := hide h1
  have H2 := hide h2
  clear h1 h2
  have hnn : ((l.length : Int) != (l.length : Int)) = false := by simp
  go_enter Try.func78, Try.ntmps78
  go_wp2_with fail
  go_loopw [5] (fun i w' => ∃ j m : Nat, j ≤ l.length ∧ i = .int .i64 j ∧ w' = w.drewN m) (fun i _ => l.length - (intOf i).toNat)
  case atStart => exact ⟨0, 0, Nat.zero_le _, rfl, rfl⟩
  case round =>
    obtain ⟨j, m, hj, rfl, rfl⟩ := hrel
    by_cases cj : j < l.length
    · obtain ⟨g, rfl, _, _, hc⟩ := owns_form (unhide H1) (by omega)
      obtain ⟨g', rfl, _, _, hc'⟩ := owns_form (unhide H2) (by omega)
      obtain ⟨q0, q1, q2⟩ := qcells_at l j cj
      have x0 := owns_cell (unhide H1) _ _ q0
      have x1 := owns_cell (unhide H1) _ _ q1
      have x2 := owns_cell (unhide H1) _ _ q2
      have y0 := owns_cell (unhide H2) _ _ q0
      have y1 := owns_cell (unhide H2) _ _ q1
      have y2 := owns_cell (unhide H2) _ _ q2
      clear q0 q1 q2
      generalize l[j].name = nm at *
      generalize l[j].ty = ty at *
      generalize l[j].cl = cl at *
      go_wp2_with fail
      go_quiet (fail)
      go_wp2_with fail
      exact ⟨⟨j + 1, m + nq, by omega, by go_num, rfl⟩, by simp [intOf]; omega⟩
    · go_wp2_with fail
      go_ret
      exact ⟨rfl, m, rfl⟩

set_option maxRecDepth 100000 in
set_option maxHeartbeats 1000000 in
theorem sameRecords_true (l : List Rc) (a a' : Option Addr) (c c' N N' : Nat) (w : World) (h1 : w.ownsRow N 86 5 (.slice a l.length c) l.length (rcells l)) (h2 : w.ownsRow N' 86 5 (.slice a' l.length c') l.length (rcells l)) (hn : l.length ≤ 65535) :
    Calls Try.prog 65 #[.slice a l.length c, .slice a' l.length c'] w fun e w' => e = .returned (.bool true) ∧ ∃ n, w' = w.drewN n := by
  have H1 := hide h1
  have H2 := hide h2
  clear h1 h2
  have hnn : ((l.length : Int) != (l.length : Int)) = false := by simp
  go_enter Try.func65, Try.ntmps65
  go_wp2_with fail
  go_loopw [5] (fun i w' => ∃ j m : Nat, j ≤ l.length ∧ i = .int .i64 j ∧ w' = w.drewN m) (fun i _ => l.length - (intOf i).toNat)
  case atStart => exact ⟨0, 0, Nat.zero_le _, rfl, rfl⟩
  case round =>
    obtain ⟨j, m, hj, rfl, rfl⟩ := hrel
    by_cases cj : j < l.length
    · obtain ⟨g, rfl, _, _, hc⟩ := owns_form (unhide H1) (by omega)
      obtain ⟨g', rfl, _, _, hc'⟩ := owns_form (unhide H2) (by omega)
      obtain ⟨q0, q1, q2, q3, q4⟩ := rcells_at l j cj
      have x0 := owns_cell (unhide H1) _ _ q0
      have x1 := owns_cell (unhide H1) _ _ q1
      have x2 := owns_cell (unhide H1) _ _ q2
      have x3 := owns_cell (unhide H1) _ _ q3
      have x4 := owns_cell (unhide H1) _ _ q4
      have y0 := owns_cell (unhide H2) _ _ q0
      have y1 := owns_cell (unhide H2) _ _ q1
      have y2 := owns_cell (unhide H2) _ _ q2
      have y3 := owns_cell (unhide H2) _ _ q3
      have y4 := owns_cell (unhide H2) _ _ q4
      clear q0 q1 q2 q3 q4
      generalize l[j].name = nm at *
      generalize l[j].ty = ty at *
      generalize l[j].cl = cl at *
      generalize l[j].ttl = tl at *
      generalize l[j].data = dt at *
      go_wp2_with fail
      go_quiet (fail)
      go_wp2_with fail
      exact ⟨⟨j + 1, m + nq, by omega, by go_num, rfl⟩, by simp [intOf]; omega⟩
    · go_wp2_with fail
      go_ret
      exact ⟨rfl, m, rfl⟩

/-- No list is longer than a count can say. -/
def Small (m : Msg) : Prop := m.q.length ≤ 65535 ∧ m.a.length ≤ 65535 ∧ m.u.length ≤ 65535 ∧ m.x.length ≤ 65535

theorem below_drewN' {B : Nat} {a w : World} (h : Below B a w) (n : Nat) : Below B a (w.drewN n) := ⟨h.os, h.tape, h.output, h.size, h.block⟩

theorem owns_drewN {w : World} {N : Nat} {e : TypeId} {size : Nat} {v : Value} {n : Nat} {xs : List Value} (h : w.ownsRow N e size v n xs) (k : Nat) : (w.drewN k).ownsRow N e size v n xs := h

set_option maxRecDepth 100000 in
set_option maxHeartbeats 1000000 in
theorem sameMessage_true (m : Msg) (v v' : Value) (N N' : Nat) (w : World) (h1 : MsgIs w N v m) (h2 : MsgIs w N' v' m) (hs : Small m) :
    Calls Try.prog 39 #[v, v'] w fun e w' => e = .returned (.bool true) ∧ Below w.heap.size w w' := by
  obtain ⟨a1, c1, a2, c2, a3, c3, a4, c4, rfl, o1, o2, o3, o4, _⟩ := h1
  obtain ⟨b1, d1, b2, d2, b3, d3, b4, d4, rfl, r1, r2, r3, r4, _⟩ := h2
  obtain ⟨s1, s2, s3, s4⟩ := hs
  obtain ⟨id, fl, q, a, u, x⟩ := m
  simp only at *
  have key1 := fun W (h : ∃ A B n, W = ((w.alloc A).alloc B).drewN n) => sameQuestions_true q a1 b1 c1 d1 N N' W (by obtain ⟨A, B, n, rfl⟩ := h; exact owns_drewN ((o1.alloc _).alloc _) n) (by obtain ⟨A, B, n, rfl⟩ := h; exact owns_drewN ((r1.alloc _).alloc _) n) s1
  have key2 := fun W (h : ∃ A B n, W = ((w.alloc A).alloc B).drewN n) => sameRecords_true a a2 b2 c2 d2 N N' W (by obtain ⟨A, B, n, rfl⟩ := h; exact owns_drewN ((o2.alloc _).alloc _) n) (by obtain ⟨A, B, n, rfl⟩ := h; exact owns_drewN ((r2.alloc _).alloc _) n) s2
  have key3 := fun W (h : ∃ A B n, W = ((w.alloc A).alloc B).drewN n) => sameRecords_true u a3 b3 c3 d3 N N' W (by obtain ⟨A, B, n, rfl⟩ := h; exact owns_drewN ((o3.alloc _).alloc _) n) (by obtain ⟨A, B, n, rfl⟩ := h; exact owns_drewN ((r3.alloc _).alloc _) n) s3
  have key4 := fun W (h : ∃ A B n, W = ((w.alloc A).alloc B).drewN n) => sameRecords_true x a4 b4 c4 d4 N N' W (by obtain ⟨A, B, n, rfl⟩ := h; exact owns_drewN ((o4.alloc _).alloc _) n) (by obtain ⟨A, B, n, rfl⟩ := h; exact owns_drewN ((r4.alloc _).alloc _) n) s4
  have K1 := hide key1
  have K2 := hide key2
  have K3 := hide key3
  have K4 := hide key4
  clear key1 key2 key3 key4 o1 o2 o3 o4 r1 r2 r3 r4
  have hii : ((id : Int) == (id : Int)) = true := by simp
  have hff : ((fl : Int) == (fl : Int)) = true := by simp
  go_enter Try.func39, Try.ntmps39
  go_wp2_with fail
  refine (unhide K1 _ ⟨_, _, 0, rfl⟩).mono ?_
  rintro e w1 ⟨rfl, n1, rfl⟩
  go_wp2_with fail
  refine (unhide K2 _ ⟨_, _, n1, rfl⟩).mono ?_
  rintro e w1 ⟨rfl, n2, rfl⟩
  go_wp2_with fail
  refine (unhide K3 _ ⟨_, _, n1 + n2, rfl⟩).mono ?_
  rintro e w1 ⟨rfl, n3, rfl⟩
  go_wp2_with fail
  refine (unhide K4 _ ⟨_, _, n1 + n2 + n3, rfl⟩).mono ?_
  rintro e w1 ⟨rfl, n4, rfl⟩
  go_wp2_with fail
  go_ret
  exact ⟨rfl, below_drewN' (((Below.refl _ _).alloc (Nat.le_refl _) _).alloc (by simp) _) _⟩

end Go.Proofs.Ytdhobdmhnocbgaa
