/-
  Walks: the writer's short names (find, learn, word, short, name).
-/
/-
  Walks: the writer's short names (short, name).
-/
/-
  The plain side of writing: sizes, and the names of data that are well made.
-/
/-
  Walks over the document's own answer: which messages are well made (word, length, wellData, wellRecord).
-/
/-
  Walks: which messages are well made (areRecords, isMessage).
-/
/-
  Walks over the document's own answer: which messages are well made (wellRecord, wellPart).
-/
/-
  Walks over the document's own answer: which messages are well made (wellPart, Well).
-/
/-
  Walks: the writer's data and records (shortData, record).
-/
import Derived.Test.YtdhobdmhnocbgaaDoorSStD
import Derived.Test.YtdhobdmhnocbgaaDoorSRefD
import Derived.Test.YtdhobdmhnocbgaaDoorSMsgs
namespace Go.Proofs.YtdhobdmhnocbgaaDoor
open Go.RowKit Zr

/-- What find answers. -/
def foundI (o : Option Nat) : Int := match o with
  | some h => h
  | none => -1

end Go.Proofs.YtdhobdmhnocbgaaDoor

namespace Go.Proofs.YtdhobdmhnocbgaaDoor
open Go.RowKit Zr

/-- Places that a pointer can name. -/
def KOk (K : List (ByteArray × Nat)) : Prop := ∀ q, q ∈ K → q.2 ≤ 16383

theorem KOk.nil : KOk [] := fun q h => by simp at h
theorem KOk.append {K l : List (ByteArray × Nat)} (h : KOk K) (h2 : KOk l) : KOk (K ++ l) := fun q hq => by
  rcases List.mem_append.1 hq with h1 | h1
  · exact h q h1
  · exact h2 q h1
end Go.Proofs.YtdhobdmhnocbgaaDoor

namespace Go.Proofs.YtdhobdmhnocbgaaDoor.Zr
open Go.Proofs.YtdhobdmhnocbgaaDoor

def Fine (st : St) : Prop := st.2.length ≤ st.1.size ∧ KOk st.2

end Go.Proofs.YtdhobdmhnocbgaaDoor.Zr

namespace Go.Proofs.YtdhobdmhnocbgaaDoor
open Go.RowKit Zr

/-- What is left of data behind j names at their front. -/
def cutTo (d : ByteArray) : Nat → ByteArray
  | 0 => d
  | j + 1 => (cutTo d j).extract (lenN (cutTo d j)) (cutTo d j).size

/-- A bool that tells whether something holds, where a condition is met. -/
def BoolIf (C P : Prop) (e : Ending) : Prop := ∃ b, e = .returned (.bool b) ∧ (C → (b = true ↔ P))

end Go.Proofs.YtdhobdmhnocbgaaDoor

namespace Go.Proofs.YtdhobdmhnocbgaaDoor
open Go.RowKit Zr

/-- May an OPT still stand behind the first j records of a part? -/
def mayI (l : List RI) (part j : Nat) : Prop := part = 2 ∧ ∀ k (h : k < l.length), k < j → l[k].ty ≠ 41

/-- A message that is handed in: its lists lie below the block N. -/
def MsgAt (w : World) (N : Nat) (v : Value) (m : MI) : Prop := ∃ a1 c1 a2 c2 a3 c3 a4 c4,
  v = .agg #[.int .i64 m.id, .int .i64 m.flags, .slice a1 m.q.length c1, .slice a2 m.a.length c2, .slice a3 m.u.length c3, .slice a4 m.x.length c4] ∧
  RowAt w N a1 (qcI m.q) ∧ RowAt w N a2 (rcI m.a) ∧ RowAt w N a3 (rcI m.u) ∧ RowAt w N a4 (rcI m.x) ∧ QSized m.q ∧ RSized m.a ∧ RSized m.u ∧ RSized m.x ∧ m.q.length ≤ c1 ∧ m.a.length ≤ c2 ∧ m.u.length ≤ c3 ∧ m.x.length ≤ c4

theorem MsgAt.below {w w' : World} {N : Nat} {v : Value} {m : MI} (h : MsgAt w N v m) (hb : Below N w w') : MsgAt w' N v m := by
  obtain ⟨a1, c1, a2, c2, a3, c3, a4, c4, e, r1, r2, r3, r4, z⟩ := h
  exact ⟨a1, c1, a2, c2, a3, c3, a4, c4, e, r1.below hb, r2.below hb, r3.below hb, r4.below hb, z⟩

end Go.Proofs.YtdhobdmhnocbgaaDoor

namespace Go.Proofs.YtdhobdmhnocbgaaDoor
open Go.RowKit Zr

end Go.Proofs.YtdhobdmhnocbgaaDoor

namespace Go.Proofs.YtdhobdmhnocbgaaDoor
open Go.RowKit Zr

end Go.Proofs.YtdhobdmhnocbgaaDoor

namespace Go.Proofs.YtdhobdmhnocbgaaDoor
open Go.RowKit Zr

end Go.Proofs.YtdhobdmhnocbgaaDoor
