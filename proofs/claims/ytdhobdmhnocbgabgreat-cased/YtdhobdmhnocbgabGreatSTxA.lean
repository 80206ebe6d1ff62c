/-
  Walks over the document's own answer: what is being written (high, knownAt).
-/
import Derived.Test.YtdhobdmhnocbgabGreatSRwC
import Derived.Test.YtdhobdmhnocbgabGreatSSerW
import Derived.Test.YtdhobdmhnocbgabGreatSLawC
namespace Go.Proofs.YtdhobdmhnocbgabGreat
open Go.RowKit Zr

/-- The last i bytes of a number, the high byte first. -/
def hiS (n : Nat) : Nat → ByteArray
  | 0 => ⟨#[]⟩
  | i + 1 => ⟨#[UInt8.ofNat (n / 256 ^ i % 256)]⟩ ++ hiS n i

/-- The cells of heads. -/
def hcells (K : List (ByteArray × Nat)) : List Value := K.map fun p => .int .i64 p.2

end Go.Proofs.YtdhobdmhnocbgabGreat
