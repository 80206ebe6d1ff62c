/-
  Walks over the document's own answer: what is being written (high, knownAt).
-/
import Derived.Test.YtdhobdmhnocbgaaGreatSRwC
import Derived.Test.YtdhobdmhnocbgaaGreatSSerW
import Derived.Test.YtdhobdmhnocbgaaGreatSLawC
namespace Go.Proofs.YtdhobdmhnocbgaaGreat
open Go.RowKit Zr

/-- The last i bytes of a number, the high byte first. -/
def hiS (n : Nat) : Nat → ByteArray
  | 0 => ⟨#[]⟩
  | i + 1 => ⟨#[UInt8.ofNat (n / 256 ^ i % 256)]⟩ ++ hiS n i

/-- The cells of heads. -/
def hcells (K : List (ByteArray × Nat)) : List Value := K.map fun p => .int .i64 p.2

/-- A text in block T: the bytes B; the heads of what is known. -/
def Tx (w : World) (N T : Nat) (B : ByteArray) (K : List (ByteArray × Nat)) : Prop :=
  ∃ ah ch, w.heap[T]? = some (.cells #[.string B, .slice ah K.length ch] 89 (0, 0)) ∧ N ≤ T ∧ w.ownsRow N 3 1 (.slice ah K.length ch) K.length (hcells K)

/-- Only blocks of the text's kinds, from N on, may have turned. -/
structure TFrame (N : Nat) (w w' : World) : Prop where
  os : w'.os = w.os
  tape : w'.tape = w.tape
  output : w'.output = w.output
  size : w.heap.size ≤ w'.heap.size
  low : ∀ k, k < N → k < w.heap.size → w'.heap[k]? = w.heap[k]?
  kind : ∀ (k : Nat) (cs : Array Value) (t : TypeId) (fr : Nat × Nat), w.heap[k]? = some (Obj.cells cs t fr) → t ≠ 3 → t ≠ 89 → w'.heap[k]? = some (Obj.cells cs t fr)

theorem TFrame.refl (N : Nat) (w : World) : TFrame N w w := ⟨rfl, rfl, rfl, Nat.le_refl _, fun _ _ _ => rfl, fun _ _ _ _ h _ _ => h⟩
theorem TFrame.trans {N : Nat} {a b c : World} (h : TFrame N a b) (k : TFrame N b c) : TFrame N a c :=
  ⟨k.os.trans h.os, k.tape.trans h.tape, k.output.trans h.output, Nat.le_trans h.size k.size, fun i h1 h2 => (k.low i h1 (Nat.lt_of_lt_of_le h2 h.size)).trans (h.low i h1 h2), fun i cs t fr h1 h2 h3 => k.kind i cs t fr (h.kind i cs t fr h1 h2 h3) h2 h3⟩
theorem TFrame.below {N : Nat} {w w' : World} (h : TFrame N w w') (hN : N ≤ w.heap.size) : Below N w w' := ⟨h.os, h.tape, h.output, h.size, fun k hk => h.low k hk (Nat.lt_of_lt_of_le hk hN)⟩
theorem TFrame.of_below {N : Nat} {w w' : World} (h : Below w.heap.size w w') : TFrame N w w' :=
  ⟨h.os, h.tape, h.output, h.size, fun k _ hk => h.block k hk, fun k _ _ _ hk _ _ => (h.block k (blk_lt hk)).trans hk⟩
theorem TFrame.of_grown {N g : Nat} {w w' : World} (h : w.grownBy w' (some g)) (hg : N ≤ g) {cs : Array Value} {t : TypeId} {fr : Nat × Nat} (hk : w.heap[g]? = some (.cells cs t fr)) (ht : t = 3 ∨ t = 89) : TFrame N w w' :=
  ⟨h.os, h.tape, h.output, h.size, fun k h1 h2 => h.block k h2 (fun e => by cases e; omega), fun k cs' t' fr' h1 h2 h3 => (h.block k (blk_lt h1) (fun e => by
    cases e
    rw [hk] at h1
    cases h1
    rcases ht with h | h
    · exact h2 h
    · exact h3 h)).trans h1⟩
theorem TFrame.of_none {N : Nat} {w w' : World} (h : w.grownBy w' none) : TFrame N w w' :=
  ⟨h.os, h.tape, h.output, h.size, fun k h1 h2 => h.block k h2 (by simp), fun k _ _ _ h1 _ _ => (h.block k (blk_lt h1) (by simp)).trans h1⟩
theorem TFrame.of_append {N : Nat} {w w' : World} {e : TypeId} {size : Nat} {v : Value} {n : Nat} {xs : List Value} (hown : w.ownsRow N e size v n xs) (hg : w.grownBy w' v.ownBlock) (ht : e = 3 ∨ e = 89) : TFrame N w w' := by
  rcases hown.2 with ⟨rfl, _⟩ | ⟨g, cap, cur, rfl, hbg, hgg, _⟩
  · exact TFrame.of_none hg
  · exact TFrame.of_grown hg hbg hgg ht
theorem TFrame.box {N k : Nat} {w a : World} {cs : Array Value} {t : TypeId} {fr : Nat × Nat} (h : TFrame N w a) (hr : w.heap[k]? = some (.cells cs t fr)) (h1 : t ≠ 3) (h2 : t ≠ 89) : a.heap[k]? = some (.cells cs t fr) :=
  h.kind k _ _ _ hr h1 h2

theorem Tx.lt {w : World} {N T : Nat} {B : ByteArray} {K : List (ByteArray × Nat)} (h : Tx w N T B K) : T < w.heap.size := by
  obtain ⟨ah, ch, hR, _⟩ := h
  exact blk_lt hR

theorem Tx.below {w w' : World} {N T : Nat} {B : ByteArray} {K : List (ByteArray × Nat)} (h : Tx w N T B K) (hb : Below w.heap.size w w') : Tx w' N T B K := by
  obtain ⟨ah, ch, hR, hN, o1⟩ := h
  have hg : w.grownBy w' none := grown_below hb
  exact ⟨ah, ch, (hb.block T (blk_lt hR)).trans hR, hN, owns_below o1 hb⟩

end Go.Proofs.YtdhobdmhnocbgaaGreat
