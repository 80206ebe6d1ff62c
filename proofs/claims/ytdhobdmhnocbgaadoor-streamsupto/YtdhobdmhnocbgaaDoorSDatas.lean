/-
  The plain side of data: what P5 says of a record's data.
-/
import Derived.Test.YtdhobdmhnocbgaaDoorSNames
namespace Go.Proofs.YtdhobdmhnocbgaaDoor.Zr

/-- A row of pieces from the place k on: a bytes of any values, a number of wd bytes, and so many bytes as it says. -/
def rowF (s : ByteArray) (a wd : Nat) : Nat → Nat → Bool
  | 0, _ => true
  | f + 1, k =>
    if s.size ≤ k then true
    else if s.size < k + a then false
    else if s.size < k + a + wd then false
    else if s.size < k + a + wd + num s (k + a) wd then false
    else rowF s a wd f (k + a + wd + num s (k + a) wd)

def rowB (s : ByteArray) (a wd : Nat) : Bool := rowF s a wd (s.size + 1) 0

/-- Is it the data of an SRV? -/
def svcB (s : ByteArray) : Bool := (runOf s 6 254).fail == 0 && !(runOf s 6 254).pointed && (runOf s 6 254).next == s.size

def flatB (t : Nat) (s : ByteArray) : Bool :=
  if t = 1 then s.size == 4
  else if t = 28 then s.size == 16
  else if t = 33 then svcB s
  else if t = 16 then s.size != 0 && rowB s 0 1
  else if t = 41 then rowB s 2 2
  else true

/-- So many names, one behind the other. -/
def namesTo (b : ByteArray) (k : Nat) : Nat → Except Int (ByteArray × Nat)
  | 0 => .ok (⟨#[]⟩, k)
  | i + 1 => match namesTo b k i with
    | .error e => .error e
    | .ok (s, p) => match nameAt b p with
      | .error e => .error e
      | .ok (x, t) => .ok (s ++ x, p + t)

def wn (b : ByteArray) (k n names rest : Nat) : Option ByteArray :=
  match namesTo b k names with
  | .error _ => none
  | .ok (s, p) => if p + rest = k + n then some (s ++ b.extract p (p + rest)) else none

/-- The data of a type that stand at a place, n bytes, their names whole. -/
def dataP (b : ByteArray) (k n t : Nat) : Option ByteArray :=
  if t = 2 ∨ t = 5 ∨ t = 12 then wn b k n 1 0
  else if t = 6 then wn b k n 2 20
  else if flatB t (b.extract k (k + n)) then some (b.extract k (k + n)) else none

end Go.Proofs.YtdhobdmhnocbgaaDoor.Zr
