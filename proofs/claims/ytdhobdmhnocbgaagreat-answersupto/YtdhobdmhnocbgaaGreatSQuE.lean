/-
  Walks over zonekeep: a question, written and read back; an answer, read.
-/
/-
  Walks over zonekeep: an answer, read.
-/
/-
  Walks over zonekeep: the OPT of a message; how long an answer may be.
-/
import Derived.Test.YtdhobdmhnocbgaaGreatSQuB
import Derived.Test.YtdhobdmhnocbgaaGreatSSiW
namespace Go.Proofs.YtdhobdmhnocbgaaGreat
open Go.RowKit Zr

/-- What asked hands back. -/
def AskOut (w : World) (e : Ending) (w' : World) : Prop := ∃ m v, e = .returned (.tuple #[.string (writ m.nat).1, v, .bool true]) ∧ QueM m ∧ MsgAt w' w'.heap.size v m ∧ Below w.heap.size w w'

end Go.Proofs.YtdhobdmhnocbgaaGreat

namespace Go.Proofs.YtdhobdmhnocbgaaGreat
open Go.RowKit Zr

/-- What answered hands back. -/
def AnsOut (w : World) (x : Rep) (e : Ending) (w' : World) : Prop := ∃ c v, e = .returned (.tuple #[.string (writ (repMsg x c).nat).1, v, .bool true]) ∧ Fitting x c ∧ MsgAt w' w'.heap.size v (repMsg x c) ∧ Below w.heap.size w w'

end Go.Proofs.YtdhobdmhnocbgaaGreat

namespace Go.Proofs.YtdhobdmhnocbgaaGreat
open Go.RowKit Zr

end Go.Proofs.YtdhobdmhnocbgaaGreat
