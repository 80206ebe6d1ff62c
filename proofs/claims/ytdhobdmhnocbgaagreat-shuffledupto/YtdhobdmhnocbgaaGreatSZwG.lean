/-
  Walks over the document's own answer: the zone's records.
-/
import Derived.Test.YtdhobdmhnocbgaaGreatSZwF
import Derived.Deep.AppendLies
namespace Go.Proofs.YtdhobdmhnocbgaaGreat
open Go.RowKit Zr

end Go.Proofs.YtdhobdmhnocbgaaGreat
