/-
  Walks over the law: lists with spare room behind them.
-/
/-
  Walks over the law: lists with spare room behind them (roomyRecords, sameRecords, sameQuestions, SameMessage).
-/
/-
  Walks over the law: messages that are the same, lists read where they lie.
-/
import Derived.Test.YtdhobdmhnocbgabGreatSWellY
import Derived.Test.YtdhobdmhnocbgabGreatSRecsW
import Derived.Test.YtdhobdmhnocbgabGreatSLawC
import Derived.Laws.CopyOwn
namespace Go.Proofs.YtdhobdmhnocbgabGreat
open Go.RowKit Zr

section
variable {P : Program}

end

/-- The last record of a list with room: the caller's mark. -/
def spareR : List Value := [.string ⟨#[]⟩, .int .i64 77, .int .i64 0, .int .i64 0, .string ⟨#[]⟩]
def spareQ : List Value := [.string ⟨#[]⟩, .int .i64 77, .int .i64 0]

/-- A list of its own, with spare room behind it. -/
def RoomR (w : World) (N : Nat) (v : Value) (l : List RI) : Prop := ∃ g, v = .slice (some ⟨g, 0, none⟩) l.length (l.length + 1) ∧ N ≤ g ∧ w.heap[g]? = some (.cells (rcI l ++ spareR).toArray 33 (0, 0))
def RoomQ (w : World) (N : Nat) (v : Value) (l : List QI) : Prop := ∃ g, v = .slice (some ⟨g, 0, none⟩) l.length (l.length + 1) ∧ N ≤ g ∧ w.heap[g]? = some (.cells (qcI l ++ spareQ).toArray 39 (0, 0))

theorem RowAt.addr {w : World} {N : Nat} {a : Option Addr} {xs : List Value} (h : RowAt w N a xs) : xs ≠ [] → ∃ ad, a = some ad ∧ ∀ j v, xs[j]? = some v → w.cell? (ad.add j) = some v := by
  intro hx
  obtain ⟨b, o, h1, _, h3⟩ := h hx
  refine ⟨⟨b, o, none⟩, h1, fun j v hv => ?_⟩
  have hadd : (⟨b, o, none⟩ : Addr).add j = ⟨b, o + j, none⟩ := by unfold Addr.add; split <;> simp_all
  rw [hadd]
  exact h3 j v hv

end Go.Proofs.YtdhobdmhnocbgabGreat

namespace Go.Proofs.YtdhobdmhnocbgabGreat
open Go.RowKit Zr

end Go.Proofs.YtdhobdmhnocbgabGreat

namespace Go.Proofs.YtdhobdmhnocbgabGreat
open Go.RowKit Zr

/-- No list is longer than memory can hold. -/
def Lens (m : MI) : Prop := m.q.length * 32 ≤ 140737488351232 ∧ m.a.length * 56 ≤ 140737488351232 ∧ m.u.length * 56 ≤ 140737488351232 ∧ m.x.length * 56 ≤ 140737488351232

/-- A list with room reads as the list. -/
theorem RoomR.row {w : World} {N : Nat} {v : Value} {l : List RI} (h : RoomR w N v l) : ∃ g, v = .slice (some ⟨g, 0, none⟩) l.length (l.length + 1) ∧ N ≤ g ∧ g < w.heap.size ∧ RowAt w w.heap.size (some ⟨g, 0, none⟩) (rcI l) := by
  obtain ⟨g, h1, h2, h3⟩ := h
  refine ⟨g, h1, h2, blk_lt h3, fun _ => ⟨g, 0, rfl, blk_lt h3, fun j u hu => ?_⟩⟩
  rw [Nat.zero_add, cell_of_blk h3]
  have hj := (List.getElem?_eq_some_iff.1 hu).1
  rw [List.getElem?_toArray, List.getElem?_append_left hj]
  exact hu
theorem RoomQ.row {w : World} {N : Nat} {v : Value} {l : List QI} (h : RoomQ w N v l) : ∃ g, v = .slice (some ⟨g, 0, none⟩) l.length (l.length + 1) ∧ N ≤ g ∧ g < w.heap.size ∧ RowAt w w.heap.size (some ⟨g, 0, none⟩) (qcI l) := by
  obtain ⟨g, h1, h2, h3⟩ := h
  refine ⟨g, h1, h2, blk_lt h3, fun _ => ⟨g, 0, rfl, blk_lt h3, fun j u hu => ?_⟩⟩
  rw [Nat.zero_add, cell_of_blk h3]
  have hj := (List.getElem?_eq_some_iff.1 hu).1
  rw [List.getElem?_toArray, List.getElem?_append_left hj]
  exact hu
theorem RoomR.below {w w' : World} {N : Nat} {v : Value} {l : List RI} (h : RoomR w N v l) (hb : Below w.heap.size w w') : RoomR w' N v l := by
  obtain ⟨g, h1, h2, h3⟩ := h
  exact ⟨g, h1, h2, (hb.block g (blk_lt h3)).trans h3⟩
theorem RoomQ.below {w w' : World} {N : Nat} {v : Value} {l : List QI} (h : RoomQ w N v l) (hb : Below w.heap.size w w') : RoomQ w' N v l := by
  obtain ⟨g, h1, h2, h3⟩ := h
  exact ⟨g, h1, h2, (hb.block g (blk_lt h3)).trans h3⟩

end Go.Proofs.YtdhobdmhnocbgabGreat
