/-
  Walks over the document's own answer: the serial; names and records of the zone.
-/
/-
  Walks over the document's own answer: to which node an alias belongs; the records of the aliases.
-/
import Derived.Test.YtdhobdmhnocbgabGreatSZwD
import Derived.Test.YtdhobdmhnocbgabGreatSTxA
import Derived.Test.YtdhobdmhnocbgabGreatSMwO
namespace Go.Proofs.YtdhobdmhnocbgabGreat
open Go.RowKit Zr

end Go.Proofs.YtdhobdmhnocbgabGreat

namespace Go.Proofs.YtdhobdmhnocbgabGreat
open Go.RowKit Zr

end Go.Proofs.YtdhobdmhnocbgabGreat
