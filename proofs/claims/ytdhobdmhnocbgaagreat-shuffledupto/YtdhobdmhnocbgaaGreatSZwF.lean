/-
  Walks over the document's own answer: the serial; names and records of the zone.
-/
/-
  Walks over the document's own answer: to which node an alias belongs; the records of the aliases.
-/
import Derived.Test.YtdhobdmhnocbgaaGreatSZwD
import Derived.Test.YtdhobdmhnocbgaaGreatSTxA
import Derived.Test.YtdhobdmhnocbgaaGreatSMwO
namespace Go.Proofs.YtdhobdmhnocbgaaGreat
open Go.RowKit Zr

end Go.Proofs.YtdhobdmhnocbgaaGreat

namespace Go.Proofs.YtdhobdmhnocbgaaGreat
open Go.RowKit Zr

end Go.Proofs.YtdhobdmhnocbgaaGreat
