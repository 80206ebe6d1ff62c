/-
  Walks over the law: what the owner writes behind the end of a list.
-/
/-
  Walks over the law: what the owner writes into a list, and reads again.
-/
/-
  Walks over the law: lists that are the same.
-/
import Derived.Test.YtdhobdmhnocbgaaDoorSRefE
import Derived.Deep.Upon
import Derived.Deep.QuietTactic
import Derived.BigQuiet
namespace Go.Proofs.YtdhobdmhnocbgaaDoor
open Go.RowKit Zr

/-- Only one block that was there may have turned. -/
structure Grew (w w' : World) (row : Option Nat) : Prop where
  os : w'.os = w.os
  output : w'.output = w.output
  size : w.heap.size ≤ w'.heap.size
  block : ∀ k, k < w.heap.size → some k ≠ row → w'.heap[k]? = w.heap[k]?

theorem Grew.refl (w : World) (row : Option Nat) : Grew w w row := ⟨rfl, rfl, Nat.le_refl _, fun _ _ _ => rfl⟩
end Go.Proofs.YtdhobdmhnocbgaaDoor

namespace Go.Proofs.YtdhobdmhnocbgaaDoor
open Go.RowKit Zr

/-- Each element's second cell holds the mark. -/
def Marked (w : World) (e : TypeId) (size : Nat) (a : Option Addr) (n c : Nat) (mark : Int) : Prop :=
  n = 0 ∨ ∃ g cur, a = some ⟨g, 0, none⟩ ∧ w.heap[g]? = some (.cells cur e (0, 0)) ∧ cur.size = c * size ∧ n ≤ c ∧ ∀ k, k < n → cur[k * size + 1]? = some (.int .i64 mark)

theorem Marked.keep {w w' : World} {e : TypeId} {size : Nat} {a : Option Addr} {n c : Nat} {mark : Int} {row : Option Nat} (h : Marked w e size a n c mark) (hg : Grew w w' row) (hne : (Value.slice a n c).ownBlock = none ∨ (Value.slice a n c).ownBlock ≠ row) : Marked w' e size a n c mark := by
  rcases h with h | ⟨g, cur, rfl, h2, h3⟩
  · exact .inl h
  · refine .inr ⟨g, cur, rfl, ?_, h3⟩
    rw [hg.block g (blk_lt h2) (fun e => by
      rcases hne with h1 | h1
      · simp [Value.ownBlock] at h1
      · exact h1 e)]
    exact h2

theorem Grew.trans {a b c : World} {row : Option Nat} (h : Grew a b row) (k : Grew b c row) : Grew a c row :=
  ⟨k.os.trans h.os, k.output.trans h.output, Nat.le_trans h.size k.size, fun i hi hr => (k.block i (Nat.lt_of_lt_of_le hi h.size) hr).trans (h.block i hi hr)⟩
theorem Grew.set (w : World) (R o : Nat) (v : Value) : Grew w (w.setCell ⟨R, o, none⟩ v) (some R) :=
  ⟨rfl, rfl, by rw [size_set]; exact Nat.le_refl _, fun _ _ hk => blk_set_other (fun e => hk (by rw [e])) _ _⟩

end Go.Proofs.YtdhobdmhnocbgaaDoor

namespace Go.Proofs.YtdhobdmhnocbgaaDoor
open Go.RowKit Zr

/-- No list is longer than a count can say. -/
def Small (m : Msg) : Prop := m.q.length ≤ 65535 ∧ m.a.length ≤ 65535 ∧ m.u.length ≤ 65535 ∧ m.x.length ≤ 65535

end Go.Proofs.YtdhobdmhnocbgaaDoor
