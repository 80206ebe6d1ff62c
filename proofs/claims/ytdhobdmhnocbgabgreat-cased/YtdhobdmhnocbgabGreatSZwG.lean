/-
  Walks over the document's own answer: the zone's records.
-/
import Derived.Test.YtdhobdmhnocbgabGreatSZwF
import Derived.Deep.AppendLies
namespace Go.Proofs.YtdhobdmhnocbgabGreat
open Go.RowKit Zr

end Go.Proofs.YtdhobdmhnocbgabGreat
