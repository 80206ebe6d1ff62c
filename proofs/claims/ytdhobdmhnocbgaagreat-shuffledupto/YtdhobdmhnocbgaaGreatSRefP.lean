/-
  The plain side: the document's way to look at data, and the reader's way, are one.
-/
import Derived.Test.YtdhobdmhnocbgaaGreatSRecs
namespace Go.Proofs.YtdhobdmhnocbgaaGreat.Zr

/-- Is s a name, whole, and nothing else? -/
def wholeB (s : ByteArray) : Bool :=
  match nameAt s 0 with
  | .error _ => false
  | .ok (t, k) => k == s.size && decide (t = s)

/-- The same run, seen behind the first six bytes and alone. -/
def Twins (s' : ByteArray) (r r' : Run) : Prop :=
  (¬ (r.fail = 0 ∧ r.pointed = false) ∧ ¬ (r'.fail = 0)) ∨
  (r.fail = 0 ∧ r.pointed = false ∧ r'.fail = 0 ∧ r'.pointed = false ∧ r.next = r'.next + 6 ∧ 0 ≤ r'.next ∧ r'.next ≤ s'.size ∧ r'.labels ++ ⟨#[0]⟩ = s'.extract 0 r'.next.toNat)

theorem single_of (s : ByteArray) (k : Nat) (h : k < s.size) (h0 : bt s k = 0) : s.extract k (k + 1) = ⟨#[0]⟩ := by
  apply ByteArray.ext
  rw [ByteArray.data_extract]
  have h' : k < s.data.size := h
  rw [← bt_get s k h] at h0
  have h1 : s[k] = 0 := by
    apply UInt8.toNat_inj.1
    rw [h0]; rfl
  have h2 : s.data[k] = 0 := h1
  apply Array.ext
  · simp; omega
  · intro i hi1 hi2
    simp at hi2
    subst hi2
    simp [h2]

end Go.Proofs.YtdhobdmhnocbgaaGreat.Zr
