/-
  The plain side of the document's Parse: part by part.
-/
/-
  Walks over the document's own answer: Parse.
-/
import Derived.Test.YtdhobdmhnocbgaaDoorSParseX
import Derived.Test.YtdhobdmhnocbgaaDoorSRefD
namespace Go.Proofs.YtdhobdmhnocbgaaDoor.Zr

def setPart (m : Msg) (i : Nat) (l : List Rc) : Msg :=
  if i = 0 then { m with a := l } else if i = 1 then { m with u := l } else { m with x := l }

def partsTo (b : ByteArray) (m0 : Msg) (p1 : Nat) : Nat → Except Int (Msg × Nat)
  | 0 => .ok (m0, p1)
  | i + 1 => match partsTo b m0 p1 i with
    | .error e => .error e
    | .ok (m, p) => match rcTo b i p (num b (2 * (3 + i)) 2) with
      | .error e => .error e
      | .ok (l, p') => .ok (setPart m i l, p')

/-- The message that the records are put into. -/
def msgQ (b : ByteArray) (q : List Qs) : Msg := ⟨num b 0 2, num b 2 2, q, [], [], []⟩

end Go.Proofs.YtdhobdmhnocbgaaDoor.Zr
namespace Go.Proofs.YtdhobdmhnocbgaaDoor
open Go.RowKit Zr

def Under (v : Value) (M : Nat) : Prop := ∀ g, v.ownBlock = some g → g < M
theorem Apart.symm {u v : Value} (h : Apart u v) : Apart v u := fun g hv hu => h g hu hv

/-- The message's lists lie below M. -/
def MsgUnder (v : Value) (M : Nat) : Prop := ∀ i f s1 s2 s3 s4, v = .agg #[i, f, s1, s2, s3, s4] → Under s1 M ∧ Under s2 M ∧ Under s3 M ∧ Under s4 M

end Go.Proofs.YtdhobdmhnocbgaaDoor

namespace Go.Proofs.YtdhobdmhnocbgaaDoor
open Go.RowKit Zr

theorem owns_below {w w' : World} {N : Nat} {e : TypeId} {size : Nat} {v : Value} {n : Nat} {xs : List Value} (h : w.ownsRow N e size v n xs) (hb : Below w.heap.size w w') : w'.ownsRow N e size v n xs := by
  refine h.kept (grown_below (row := none) hb) ?_
  cases v.ownBlock with
  | none => exact .inl rfl
  | some g => exact .inr (by simp)

end Go.Proofs.YtdhobdmhnocbgaaDoor
