/-
  The plain side: the document's way to look at data, and the reader's way, are one.
-/
import Derived.Test.YtdhobdmhnocbgabGreatSRecs
namespace Go.Proofs.YtdhobdmhnocbgabGreat.Zr

theorem extract_size (s : ByteArray) (k : Nat) (hk : k ≤ s.size) : (s.extract k s.size).size = s.size - k := size_extract' s k s.size hk (Nat.le_refl _)

theorem bt_tail (s : ByteArray) (k p : Nat) (h : k + p < s.size) : bt (s.extract k s.size) p = bt s (k + p) := by
  have e : s.extract k s.size = s.extract k (k + (s.size - k)) := by congr 1; omega
  rw [e]
  exact bt_extract s k (s.size - k) p (by omega) (by omega)

/-- Is s a name, whole, and nothing else? -/
def wholeB (s : ByteArray) : Bool :=
  match nameAt s 0 with
  | .error _ => false
  | .ok (t, k) => k == s.size && decide (t = s)

/-- The same run, seen behind the first six bytes and alone. -/
def Twins (s' : ByteArray) (r r' : Run) : Prop :=
  (¬ (r.fail = 0 ∧ r.pointed = false) ∧ ¬ (r'.fail = 0)) ∨
  (r.fail = 0 ∧ r.pointed = false ∧ r'.fail = 0 ∧ r'.pointed = false ∧ r.next = r'.next + 6 ∧ 0 ≤ r'.next ∧ r'.next ≤ s'.size ∧ r'.labels ++ ⟨#[0]⟩ = s'.extract 0 r'.next.toNat)

theorem single_of (s : ByteArray) (k : Nat) (h : k < s.size) (h0 : bt s k = 0) : s.extract k (k + 1) = ⟨#[0]⟩ := by
  apply ByteArray.ext
  rw [ByteArray.data_extract]
  have h' : k < s.data.size := h
  rw [← bt_get s k h] at h0
  have h1 : s[k] = 0 := by
    apply UInt8.toNat_inj.1
    rw [h0]; rfl
  have h2 : s.data[k] = 0 := h1
  apply Array.ext
  · simp; omega
  · intro i hi1 hi2
    simp at hi2
    subst hi2
    simp [h2]

end Go.Proofs.YtdhobdmhnocbgabGreat.Zr
