/-
  Walks over the law: what the owner writes behind the end of a list.
-/
/-
  Walks over the law: what the owner writes into a list, and reads again.
-/
/-
  Walks over the law: lists that are the same.
-/
import Derived.Test.YtdhobdmhnocbgaaGreatSRefE
import Derived.Deep.Upon
import Derived.Deep.QuietTactic
import Derived.BigQuiet
namespace Go.Proofs.YtdhobdmhnocbgaaGreat
open Go.RowKit Zr

/-- Only one block that was there may have turned. -/
structure Grew (w w' : World) (row : Option Nat) : Prop where
  os : w'.os = w.os
  output : w'.output = w.output
  size : w.heap.size ≤ w'.heap.size
  block : ∀ k, k < w.heap.size → some k ≠ row → w'.heap[k]? = w.heap[k]?

theorem Grew.refl (w : World) (row : Option Nat) : Grew w w row := ⟨rfl, rfl, Nat.le_refl _, fun _ _ _ => rfl⟩
theorem Grew.of_below {w w' : World} (h : Below w.heap.size w w') : Grew w w' none := ⟨h.os, h.output, h.size, fun k hk _ => h.block k hk⟩
theorem Grew.owns {w w' : World} {row : Option Nat} {N : Nat} {e : TypeId} {size : Nat} {v : Value} {n : Nat} {xs : List Value} (hg : Grew w w' row) (h : w.ownsRow N e size v n xs) (hne : v.ownBlock = none ∨ v.ownBlock ≠ row) : w'.ownsRow N e size v n xs := by
  refine ⟨h.1, ?_⟩
  rcases h.2 with hn | ⟨g, cap, cur, rfl, hb, hgg, rest⟩
  · exact .inl hn
  · refine .inr ⟨g, cap, cur, rfl, hb, ?_, rest⟩
    rw [hg.block g (blk_lt hgg) (fun e => by
      rcases hne with h1 | h1
      · simp [Value.ownBlock] at h1
      · exact h1 e)]
    exact hgg

end Go.Proofs.YtdhobdmhnocbgaaGreat

namespace Go.Proofs.YtdhobdmhnocbgaaGreat
open Go.RowKit Zr

/-- Each element's second cell holds the mark. -/
def Marked (w : World) (e : TypeId) (size : Nat) (a : Option Addr) (n c : Nat) (mark : Int) : Prop :=
  n = 0 ∨ ∃ g cur, a = some ⟨g, 0, none⟩ ∧ w.heap[g]? = some (.cells cur e (0, 0)) ∧ cur.size = c * size ∧ n ≤ c ∧ ∀ k, k < n → cur[k * size + 1]? = some (.int .i64 mark)

theorem Marked.keep {w w' : World} {e : TypeId} {size : Nat} {a : Option Addr} {n c : Nat} {mark : Int} {row : Option Nat} (h : Marked w e size a n c mark) (hg : Grew w w' row) (hne : (Value.slice a n c).ownBlock = none ∨ (Value.slice a n c).ownBlock ≠ row) : Marked w' e size a n c mark := by
  rcases h with h | ⟨g, cur, rfl, h2, h3⟩
  · exact .inl h
  · refine .inr ⟨g, cur, rfl, ?_, h3⟩
    rw [hg.block g (blk_lt h2) (fun e => by
      rcases hne with h1 | h1
      · simp [Value.ownBlock] at h1
      · exact h1 e)]
    exact h2

theorem Grew.trans {a b c : World} {row : Option Nat} (h : Grew a b row) (k : Grew b c row) : Grew a c row :=
  ⟨k.os.trans h.os, k.output.trans h.output, Nat.le_trans h.size k.size, fun i hi hr => (k.block i (Nat.lt_of_lt_of_le hi h.size) hr).trans (h.block i hi hr)⟩
theorem Grew.set (w : World) (R o : Nat) (v : Value) : Grew w (w.setCell ⟨R, o, none⟩ v) (some R) :=
  ⟨rfl, rfl, by rw [size_set]; exact Nat.le_refl _, fun _ _ hk => blk_set_other (fun e => hk (by rw [e])) _ _⟩

end Go.Proofs.YtdhobdmhnocbgaaGreat

namespace Go.Proofs.YtdhobdmhnocbgaaGreat
open Go.RowKit Zr

/-- No list is longer than a count can say. -/
def Small (m : Msg) : Prop := m.q.length ≤ 65535 ∧ m.a.length ≤ 65535 ∧ m.u.length ≤ 65535 ∧ m.x.length ≤ 65535

theorem below_drewN' {B : Nat} {a w : World} (h : Below B a w) (n : Nat) : Below B a (w.drewN n) := ⟨h.os, h.tape, h.output, h.size, h.block⟩

end Go.Proofs.YtdhobdmhnocbgaaGreat
