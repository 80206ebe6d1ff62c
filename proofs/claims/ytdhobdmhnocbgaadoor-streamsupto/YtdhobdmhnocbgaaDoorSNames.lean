/-
  The plain side of names: what one run says of the whole name.
-/
import Derived.Test.YtdhobdmhnocbgaaDoorSPure
namespace Go.Proofs.YtdhobdmhnocbgaaDoor.Zr

theorem empty_append (s : ByteArray) : (⟨#[]⟩ : ByteArray) ++ s = s := by
  apply ByteArray.ext
  simp [ByteArray.data_append]

theorem size_extract' (b : ByteArray) (i j : Nat) (h1 : i ≤ j) (h2 : j ≤ b.size) : (b.extract i j).size = j - i := by
  rw [ByteArray.size_extract]; omega

/-- What a run from k on, that began at start, says of the name; front bytes stand ahead of the run. -/
def RunSpec (b : ByteArray) (start front k : Nat) (r : Run) : Prop :=
  (r.fail ≠ 0 ∧ r.pointed = false ∧ r.labels = ⟨#[]⟩ ∧ nmAt b k start (front + (k - start)) = .error r.fail) ∨
  (r.fail = 0 ∧ ∃ suf, r.labels = b.extract start k ++ suf ∧ (k : Int) ≤ r.next ∧ r.next ≤ b.size ∧ front + r.labels.size ≤ 254 ∧
    ((r.pointed = false ∧ nmAt b k start (front + (k - start)) = .ok (suf ++ ⟨#[0]⟩, (r.next - k).toNat)) ∨
     (r.pointed = true ∧ 0 ≤ r.to ∧ r.to < start ∧ nmAt b k start (front + (k - start)) =
        match nmAt b r.to.toNat r.to.toNat (front + r.labels.size) with
        | .ok (s, _) => .ok (suf ++ s, (r.next - k).toNat)
        | .error e => .error e)))

/-- What is left to be read behind a run, with the labels so far. -/
def behind (b : ByteArray) (L : ByteArray) (r : Run) : Except Int ByteArray :=
  if r.pointed then match nmAt b r.to.toNat r.to.toNat L.size with
    | .ok (s, _) => .ok (L ++ s)
    | .error e => .error e
  else if r.fail ≠ 0 then .error r.fail else .ok (L ++ ⟨#[0]⟩)

/-- The name at a place: it, and where it ends. -/
def nameAt (b : ByteArray) (k : Nat) : Except Int (ByteArray × Nat) := nmAt b k k 0

end Go.Proofs.YtdhobdmhnocbgaaDoor.Zr
