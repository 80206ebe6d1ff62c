/-
  Walks over the document's own answer: which messages are well made (word, length, wellData, wellRecord).
-/
/-
  Walks over the document's own answer: which messages are well made (wellRecord, wellPart).
-/
/-
  Walks over the document's own answer: which messages are well made (wellPart, Well).
-/
import Derived.Test.YtdhobdmhnocbgabGreatSWellY
import Derived.Test.YtdhobdmhnocbgabGreatSRefD
import Derived.Test.YtdhobdmhnocbgabGreatSMsgx
namespace Go.Proofs.YtdhobdmhnocbgabGreat
open Go.RowKit Zr

/-- What is left of data behind j names at their front. -/
def cutTo (d : ByteArray) : Nat → ByteArray
  | 0 => d
  | j + 1 => (cutTo d j).extract (lenN (cutTo d j)) (cutTo d j).size

/-- A bool that tells whether something holds, where a condition is met. -/
def BoolIf (C P : Prop) (e : Ending) : Prop := ∃ b, e = .returned (.bool b) ∧ (C → (b = true ↔ P))

end Go.Proofs.YtdhobdmhnocbgabGreat

namespace Go.Proofs.YtdhobdmhnocbgabGreat
open Go.RowKit Zr

end Go.Proofs.YtdhobdmhnocbgabGreat

namespace Go.Proofs.YtdhobdmhnocbgabGreat
open Go.RowKit Zr

theorem below_drew {B : Nat} {a w : World} (h : Below B a w) : Below B a w.drew := ⟨h.os, h.tape, h.output, h.size, h.block⟩

end Go.Proofs.YtdhobdmhnocbgabGreat
