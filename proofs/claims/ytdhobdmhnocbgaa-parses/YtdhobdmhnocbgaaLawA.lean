/-
  Walks over the law: what the owner writes behind the end of a list.
-/
import Derived.Test.YtdhobdmhnocbgaaRefE
import Derived.Deep.Upon
namespace Go.Proofs.Ytdhobdmhnocbgaa
open Go.RowKit Zr

/-- Only one block that was there may have turned. -/
structure Grew (w w' : World) (row : Option Nat) : Prop where
  os : w'.os = w.os
  output : w'.output = w.output
  size : w.heap.size ≤ w'.heap.size
  block : ∀ k, k < w.heap.size → some k ≠ row → w'.heap[k]? = w.heap[k]?

theorem Grew.refl (w : World) (row : Option Nat) : Grew w w row := ⟨rfl, rfl, Nat.le_refl _, fun _ _ _ => rfl⟩
theorem Grew.of_below {w w' : World} (h : Below w.heap.size w w') : Grew w w' none := ⟨h.os, h.output, h.size, fun k hk _ => h.block k hk⟩
theorem Grew.of_drewN (w : World) (n : Nat) : Grew w (w.drewN n) none := ⟨rfl, rfl, Nat.le_refl _, fun _ _ _ => rfl⟩
theorem Grew.owns {w w' : World} {row : Option Nat} {N : Nat} {e : TypeId} {size : Nat} {v : Value} {n : Nat} {xs : List Value} (hg : Grew w w' row) (h : w.ownsRow N e size v n xs) (hne : v.ownBlock = none ∨ v.ownBlock ≠ row) : w'.ownsRow N e size v n xs := by
  refine ⟨h.1, ?_⟩
  rcases h.2 with hn | ⟨g, cap, cur, rfl, hb, hgg, rest⟩
  · exact .inl hn
  · refine .inr ⟨g, cap, cur, rfl, hb, ?_, rest⟩
    rw [hg.block g (blk_lt hgg) (fun e => by
      rcases hne with h1 | h1
      · simp [Value.ownBlock] at h1
      · exact h1 e)]
    exact hgg

/-- A row of the call's own, as a slice that came in. -/
theorem came_of {w : World} {N : Nat} {e : TypeId} {size : Nat} {a : Option Addr} {n c : Nat} {xs : List Value} (h : w.ownsRow N e size (.slice a n c) n xs) : Came w size a ((a.map Addr.block).getD 0) 0 n c xs := by
  rcases h.2 with ⟨h1, h2⟩ | ⟨g, cap, cur, h1, h2, h3, h4, h5, h6, h7⟩
  · cases h1
    have hx : xs = [] := List.eq_nil_of_length_eq_zero (by rw [h.1]; simp)
    subst hx
    exact ⟨Nat.le_refl _, fun h => by omega, fun h => by omega, by simp, fun j u hu => by simp at hu, fun j hj => by simp at hj⟩
  · cases h1
    refine ⟨h4, fun _ => rfl, fun _ => blk_lt h3, h.1, fun j u hu => ?_, fun j hj => ?_⟩
    · simp only [Option.map_some, Option.getD_some, Nat.zero_add]
      exact owns_cell h j u hu
    · simp only [Option.map_some, Option.getD_some, Nat.zero_add]
      have hlt : n * size + j < cur.size := by
        rw [h6]
        have : (c - n) * size = c * size - n * size := Nat.sub_mul _ _ _
        omega
      refine ⟨?_, frozen_of_blk h3 _⟩
      rw [cell_of_blk h3]
      simp [hlt]

/-- Behind so many appends: the row reads as it did; nothing else has turned. -/
theorem upon_owns {w wr : World} {N : Nat} {e : TypeId} {size : Nat} {a : Option Addr} {n c : Nat} {xs : List Value} {v : Value} {m r : Nat} {ks : List Value} (h : w.ownsRow N e size (.slice a n c) n xs) (hu : Upon w e size a ((a.map Addr.block).getD 0) 0 n c xs wr v m ks r) :
    wr.ownsRow N e size (.slice a n c) n xs ∧ Grew w wr (Value.slice a n c).ownBlock := by
  have hk := hu.kept
  have hr := hu.rFit
  rcases h.2 with ⟨h1, h2⟩ | ⟨g, cap, cur, h1, h2, h3, h4, h5, h6, h7⟩
  · cases h1
    refine ⟨⟨h.1, .inl ⟨rfl, rfl⟩⟩, hk.1, hk.2.1, hk.size, fun k hlt _ => hk.block hlt (fun p hp => ?_)⟩
    obtain ⟨j, hj, _⟩ := hp
    simp at hr
    omega
  · cases h1
    simp only [Option.map_some, Option.getD_some, Nat.zero_add] at hk
    refine ⟨⟨h.1, .inr ?_⟩, hk.1, hk.2.1, hk.size, fun k hlt hne => hk.block hlt (fun p hp => ?_)⟩
    · have hb := hk.2.2 g (blk_lt h3)
      rw [h3] at hb
      cases hw : wr.heap[g]? with
      | none => rw [hw] at hb; simp at hb
      | some o =>
        rw [hw] at hb
        cases o with
        | cells c' t' fr' =>
          simp only at hb
          obtain ⟨rfl, rfl, hs, hc⟩ := hb
          refine ⟨g, c, c', rfl, h2, hw, h4, h5, by rw [hs, h6], ?_⟩
          rw [← h7]
          apply List.ext_getElem?
          intro j
          by_cases hj : j < n * size
          · rw [List.getElem?_take_of_lt hj, List.getElem?_take_of_lt hj]
            have := hc j (fun ⟨i, _, he⟩ => by
              have : j = n * size + i := by simpa using he
              omega)
            simpa using this
          · rw [List.getElem?_eq_none (by simp; omega), List.getElem?_eq_none (by simp; omega)]
        | pending c' t' => simp at hb
        | view a' t' => simp at hb
        | number a' l' => simp at hb
        | map es cl => simp at hb
        | chan c' b' d' s' r' t' => simp at hb
        | stringIter s' p' => simp at hb
        | mapIter m' s' e' t' => simp at hb
        | loop l' => simp at hb
        | deferred d' => simp at hb
        | coro p' => simp at hb
        | finalizers f' r' => simp at hb
    · obtain ⟨j, _, rfl⟩ := hp
      intro e
      exact hne (by simp [Value.ownBlock]; exact e.symm)

set_option maxRecDepth 100000 in
set_option maxHeartbeats 1000000 in
theorem behind_any (a : Option Addr) (n c N : Nat) (xs : List Value) (w : World) (hown : w.ownsRow N 86 5 (.slice a n c) n xs) (hn : n ≤ 65535) :
    Calls Try.prog 79 #[.slice a n c] w fun e w' => e = .returned (.tuple #[]) ∧ w'.ownsRow N 86 5 (.slice a n c) n xs ∧ Grew w w' (Value.slice a n c).ownBlock := by
  obtain ⟨i0, hi, hz0, hz1, hz2⟩ := info_parts Try.info86
  have Hi := hide hi
  have Hz0 := hide hz0
  have Hz1 := hide hz1
  have Hz2 := hide hz2
  clear hi hz0 hz1 hz2
  have hC := hide (came_of hown)
  have HO := hide hown
  clear hown
  go_enter Try.func79, Try.ntmps79
  go_wp2_with fail
  go_loopg [0, 2] 10 (fun g v i w' => ∃ (j : Nat) (ks : List Value) (r : Nat), i = .int .i64 j ∧ j ≤ 9 ∧ g = 10 - j ∧ Hid (Upon w 86 5 a ((a.map Addr.block).getD 0) 0 n c xs w' v j ks r))
  case atStart => exact ⟨0, [], 0, rfl, by omega, rfl, Upon.start (unhide hC)⟩
  case round =>
    obtain ⟨j, ks, r, rfl, hj, hg, hU⟩ := hrel
    by_cases cj : j < 9
    · go_wp2_with (at_builtin; refine wpList_append_upon _ rfl _ _ 23 23 rfl (unhide hC) i0 (.agg #[.string ⟨#[]⟩, .int .i64 0, .int .i64 0, .int .i64 0, .string ⟨#[]⟩]) 56 Try.underlying23 (unhide Hi) (unhide Hz0) (unhide Hz1) (unhide Hz2) rfl (by rfl) ((unhide hU).alloc (unhide hC) _) (.slice (some ⟨wr.heap.size, 0, none⟩) 1 1) 1 [.string ⟨#[]⟩, .int .i64 77, .int .i64 0, .int .i64 0, .string ⟨#[]⟩] (by rfl) (Src.ofSlice _ Try.underlying23 ⟨wr.heap.size, 0, none⟩ 1 1 _ rfl (cell_five_new _ _ _ _ _ _ _ _ rfl) (fun x hx => by simp at hx; rcases hx with rfl | rfl | rfl | rfl | rfl <;> rfl)) (by unfold maxLen; omega) (by omega) ?_; intro v3 w3 hU3)
      go_roundg (10 - (j + 1))
      case measure => omega
      case rel => exact ⟨j + 1, _, _, by go_num, by omega, rfl, hU3⟩
    · go_wp2_with fail
      go_end0
      exact ⟨rfl, upon_owns (unhide HO) (unhide hU)⟩

end Go.Proofs.Ytdhobdmhnocbgaa
