/-
  Walks: the mesh: the good news, the greatest Inc, entries.
-/
/-
  Walks: the mesh: entries are merged, and sorted.
-/
/-
  Walks: the mesh: entries are sorted; entries of news.
-/
/-
  Walks: the mesh: entries of news, by the node and by the alias.
-/
/-
  Walks: the mesh: what counts of each node; what is up.
-/
import Derived.Test.YtdhobdmhnocbgaaDoorSEvA
import Derived.Deep.RegionHeld3
import Derived.Deep.AppendLies
namespace Go.Proofs.YtdhobdmhnocbgaaDoor
open Go.RowKit Zr

end Go.Proofs.YtdhobdmhnocbgaaDoor

namespace Go.Proofs.YtdhobdmhnocbgaaDoor
open Go.RowKit Zr

end Go.Proofs.YtdhobdmhnocbgaaDoor

namespace Go.Proofs.YtdhobdmhnocbgaaDoor
open Go.RowKit Zr

def SortOut (w : World) (l : List En) (e : Ending) (w' : World) : Prop :=
  ∃ (a : Option Addr) (c : Nat), l.length ≤ c ∧ e = .returned (.slice a l.length c) ∧ RowAt w' w'.heap.size a (enC (sortP l)) ∧ Below w.heap.size w w'

theorem RowAt.part {w : World} {N b o : Nat} {xs : List Value} (h : RowAt w N (some ⟨b, o, none⟩) xs) (k : Nat) : RowAt w N (some ⟨b, o, none⟩) (xs.take k) := by
  intro hx
  obtain ⟨b', o', h1, h2, h3⟩ := h (fun e => hx (by rw [e]; simp))
  exact ⟨b', o', h1, h2, fun j u hu => h3 j u (by
    have hj : j < k := by
      rcases Nat.lt_or_ge j k with q | q
      · exact q
      · rw [List.getElem?_eq_none (by rw [List.length_take]; omega)] at hu; cases hu
    rwa [List.getElem?_take_of_lt hj] at hu)⟩
theorem RowAt.rest {w : World} {N b o : Nat} {xs : List Value} (h : RowAt w N (some ⟨b, o, none⟩) xs) (k : Nat) : RowAt w N (some ⟨b, o + k, none⟩) (xs.drop k) := by
  intro hx
  obtain ⟨b', o', h1, h2, h3⟩ := h (fun e => hx (by rw [e]; simp))
  cases h1
  exact ⟨b, o + k, rfl, h2, fun j u hu => by rw [List.getElem?_drop] at hu; rw [Nat.add_assoc]; exact h3 _ _ hu⟩

end Go.Proofs.YtdhobdmhnocbgaaDoor

namespace Go.Proofs.YtdhobdmhnocbgaaDoor
open Go.RowKit Zr

end Go.Proofs.YtdhobdmhnocbgaaDoor

namespace Go.Proofs.YtdhobdmhnocbgaaDoor
open Go.RowKit Zr

theorem owns_set {w : World} {N : Nat} {e : TypeId} {size : Nat} {g n c : Nat} {xs : List Value} (h : w.ownsRow N e size (.slice (some ⟨g, 0, none⟩) n c) n xs) (j : Nat) (v : Value) : (w.setCell ⟨g, j, none⟩ v).ownsRow N e size (.slice (some ⟨g, 0, none⟩) n c) n (xs.set j v) := by
  refine ⟨by rw [List.length_set]; exact h.1, ?_⟩
  rcases h.2 with ⟨h1, _⟩ | ⟨g', cap, cur, h1, h2, h3, h4, h5, h6, h7⟩
  · cases h1
  · cases h1
    refine .inr ⟨g, c, cur.setIfInBounds j v, rfl, h2, blk_set h3 j v, h4, h5, by simpa using h6, ?_⟩
    rw [Array.toList_setIfInBounds, List.take_set, h7]

theorem owns_frozen {w : World} {N : Nat} {e : TypeId} {size : Nat} {g n c : Nat} {xs : List Value} (h : w.ownsRow N e size (.slice (some ⟨g, 0, none⟩) n c) n xs) (j : Nat) : w.frozen? ⟨g, j, none⟩ = false := by
  rcases h.2 with ⟨h1, _⟩ | ⟨g', cap, cur, h1, h2, h3, _⟩
  · cases h1
  · cases h1
    exact frozen_of_blk h3 j

end Go.Proofs.YtdhobdmhnocbgaaDoor
