/-
  The plain side: the document's way to look at data, and the reader's way, are one.
-/
import Derived.Test.YtdhobdmhnocbgaaDoorSRecs
namespace Go.Proofs.YtdhobdmhnocbgaaDoor.Zr

theorem num_sub (b : ByteArray) (i n p : Nat) (hn : i + n ≤ b.size) : ∀ k, p + k ≤ n → num (b.extract i (i + n)) p k = num b (i + p) k := by
  intro k
  induction k with
  | zero => intro _; rfl
  | succ k ih =>
    intro hk
    simp only [num]
    rw [ih (by omega), bt_extract b i n (p + k) (by omega) hn, Nat.add_assoc]

theorem extract_size (s : ByteArray) (k : Nat) (hk : k ≤ s.size) : (s.extract k s.size).size = s.size - k := size_extract' s k s.size hk (Nat.le_refl _)

theorem num_tail (s : ByteArray) (k p n : Nat) (h : k + p + n ≤ s.size) : num (s.extract k s.size) p n = num s (k + p) n := by
  have e : s.extract k s.size = s.extract k (k + (s.size - k)) := by congr 1; omega
  rw [e]
  exact num_sub s k (s.size - k) p (by omega) n (by omega)

theorem bt_tail (s : ByteArray) (k p : Nat) (h : k + p < s.size) : bt (s.extract k s.size) p = bt s (k + p) := by
  have e : s.extract k s.size = s.extract k (k + (s.size - k)) := by congr 1; omega
  rw [e]
  exact bt_extract s k (s.size - k) p (by omega) (by omega)

/-- Is s a name, whole, and nothing else? -/
def wholeB (s : ByteArray) : Bool :=
  match nameAt s 0 with
  | .error _ => false
  | .ok (t, k) => k == s.size && decide (t = s)

/-- The same run, seen behind the first six bytes and alone. -/
def Twins (s' : ByteArray) (r r' : Run) : Prop :=
  (¬ (r.fail = 0 ∧ r.pointed = false) ∧ ¬ (r'.fail = 0)) ∨
  (r.fail = 0 ∧ r.pointed = false ∧ r'.fail = 0 ∧ r'.pointed = false ∧ r.next = r'.next + 6 ∧ 0 ≤ r'.next ∧ r'.next ≤ s'.size ∧ r'.labels ++ ⟨#[0]⟩ = s'.extract 0 r'.next.toNat)

end Go.Proofs.YtdhobdmhnocbgaaDoor.Zr
