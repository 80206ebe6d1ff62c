/-
  Walks over the document's own answer: which of two counts rather.
-/
/-
  Walks over the document's own answer: which news count.
-/
/-
  Walks over the document's own answer: what is up.
-/
import Derived.Test.YtdhobdmhnocbgaaGreatSMwC
import Derived.Test.YtdhobdmhnocbgaaGreatSEvA
import Derived.Deep.RegionHeld3
import Derived.Test.YtdhobdmhnocbgaaGreatSMwG
namespace Go.Proofs.YtdhobdmhnocbgaaGreat
open Go.RowKit Zr

end Go.Proofs.YtdhobdmhnocbgaaGreat

namespace Go.Proofs.YtdhobdmhnocbgaaGreat
open Go.RowKit Zr

end Go.Proofs.YtdhobdmhnocbgaaGreat

namespace Go.Proofs.YtdhobdmhnocbgaaGreat
open Go.RowKit Zr

/-- What the index of the best is, -1 where there is none. -/
def bestI (o : Option Nat) : Int := match o with
  | none => -1
  | some b => b

end Go.Proofs.YtdhobdmhnocbgaaGreat
