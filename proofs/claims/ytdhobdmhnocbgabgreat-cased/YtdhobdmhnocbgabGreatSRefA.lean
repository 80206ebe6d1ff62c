/-
  Walks over the document's own answer: bytes, numbers, names.
-/
import Derived.Test.YtdhobdmhnocbgabGreatSBase
import Derived.Test.YtdhobdmhnocbgabGreatSRecs
namespace Go.Proofs.YtdhobdmhnocbgabGreat
open Go.RowKit Zr

/-- What the name's recursion gives. -/
def RestPost (res : Except Int (ByteArray × Nat)) (e : Ending) : Prop :=
  match res with
  | .ok (s, t) => e = .returned (.tuple #[.string s, .int .i64 t, .int .i64 0])
  | .error x => x ≠ 0 ∧ ∃ (s : ByteArray) (t : Int), e = .returned (.tuple #[.string s, .int .i64 t, .int .i64 x])

end Go.Proofs.YtdhobdmhnocbgabGreat
