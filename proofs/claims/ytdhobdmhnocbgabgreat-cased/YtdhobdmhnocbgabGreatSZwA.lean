/-
  Walks over the document's own answer: a node's name, good news, which count rather.
-/
import Derived.Test.YtdhobdmhnocbgabGreatSMeC
import Derived.Test.YtdhobdmhnocbgabGreatSWellY
namespace Go.Proofs.YtdhobdmhnocbgabGreat
open Go.RowKit Zr

def Ev.val (e : Ev) : Value := .agg #[.int .i64 e.kind, .string e.node, .int .i64 e.inc, .string e.addr, .int .i64 e.port, .string e.text, .string e.alias]

theorem seven (c : Nat) : c < 45 ∨ c = 45 ∨ (45 < c ∧ c < 48) ∨ (48 ≤ c ∧ c ≤ 57) ∨ (57 < c ∧ c < 97) ∨ (97 ≤ c ∧ c ≤ 122) ∨ 122 < c := by omega

theorem empty_iff (s : ByteArray) : s.toList.isEmpty = true ↔ s = ⟨#[]⟩ := by
  rw [bytes_isEmpty, decide_eq_true_eq]
  constructor
  · exact fun h => ByteArray.ext (Array.eq_empty_of_size_eq_zero h)
  · intro h; subst h; rfl

end Go.Proofs.YtdhobdmhnocbgabGreat
