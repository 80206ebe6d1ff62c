/-
  Walks over the document's own answer: which of two counts rather.
-/
/-
  Walks over the document's own answer: which news count.
-/
/-
  Walks over the document's own answer: what is up.
-/
import Derived.Test.YtdhobdmhnocbgabGreatSMwC
import Derived.Test.YtdhobdmhnocbgabGreatSEvA
import Derived.Deep.RegionHeld3
import Derived.Test.YtdhobdmhnocbgabGreatSMwG
namespace Go.Proofs.YtdhobdmhnocbgabGreat
open Go.RowKit Zr

end Go.Proofs.YtdhobdmhnocbgabGreat

namespace Go.Proofs.YtdhobdmhnocbgabGreat
open Go.RowKit Zr

end Go.Proofs.YtdhobdmhnocbgabGreat

namespace Go.Proofs.YtdhobdmhnocbgabGreat
open Go.RowKit Zr

/-- What the index of the best is, -1 where there is none. -/
def bestI (o : Option Nat) : Int := match o with
  | none => -1
  | some b => b

end Go.Proofs.YtdhobdmhnocbgabGreat
