/-
  The plain side of questions, records, messages.
-/
import Derived.Test.YtdhobdmhnocbgaaDoorSDatas
namespace Go.Proofs.YtdhobdmhnocbgaaDoor.Zr

structure Qs where
  name : ByteArray
  ty : Nat
  cl : Nat

structure Rc where
  name : ByteArray
  ty : Nat
  cl : Nat
  ttl : Nat
  data : ByteArray

def questionAt (b : ByteArray) (p : Nat) : Except Int (Qs × Nat) :=
  match nameAt b p with
  | .error e => .error e
  | .ok (s, t) => if b.size < p + t + 4 then .error 2 else .ok (⟨s, num b (p + t) 2, num b (p + t + 2) 2⟩, p + t + 4)

def recordAt (b : ByteArray) (p : Nat) : Except Int (Rc × Nat) :=
  match nameAt b p with
  | .error e => .error e
  | .ok (s, t) =>
    if b.size < p + t + 10 then .error 2
    else if b.size < p + t + 10 + num b (p + t + 8) 2 then .error 2
    else match dataP b (p + t + 10) (num b (p + t + 8) 2) (num b (p + t) 2) with
      | none => .error 4
      | some d => .ok (⟨s, num b (p + t) 2, num b (p + t + 2) 2, num b (p + t + 4) 4, d⟩, p + t + 10 + num b (p + t + 8) 2)

/-- The questions, after i of them. -/
def qsTo (b : ByteArray) (k : Nat) : Nat → Except Int (List Qs × Nat)
  | 0 => .ok ([], k)
  | i + 1 => match qsTo b k i with
    | .error e => .error e
    | .ok (l, p) => match questionAt b p with
      | .error e => .error e
      | .ok (q, p') => .ok (l ++ [q], p')

/-- May a record of this kind not stand behind these, in the part (2: the extra ones)? -/
def misB (l : List Rc) (x : Rc) (part : Nat) : Bool :=
  x.ty == 41 && (l.any (fun y => y.ty == 41) || part != 2 || decide (x.name ≠ ⟨#[0]⟩))

def rcTo (b : ByteArray) (part k : Nat) : Nat → Except Int (List Rc × Nat)
  | 0 => .ok ([], k)
  | i + 1 => match rcTo b part k i with
    | .error e => .error e
    | .ok (l, p) => match recordAt b p with
      | .error e => .error e
      | .ok (x, p') => if misB l x part then .error 5 else .ok (l ++ [x], p')

structure Msg where
  id : Nat
  flags : Nat
  q : List Qs
  a : List Rc
  u : List Rc
  x : List Rc

def parseP (b : ByteArray) : Except Int Msg :=
  if 65535 < b.size then .error 1
  else if b.size < 12 then .error 2
  else match qsTo b 12 (num b 4 2) with
    | .error e => .error e
    | .ok (q, p1) => match rcTo b 0 p1 (num b 6 2) with
      | .error e => .error e
      | .ok (a, p2) => match rcTo b 1 p2 (num b 8 2) with
        | .error e => .error e
        | .ok (u, p3) => match rcTo b 2 p3 (num b 10 2) with
          | .error e => .error e
          | .ok (x, p4) => if p4 ≠ b.size then .error 6 else .ok ⟨num b 0 2, num b 2 2, q, a, u, x⟩

end Go.Proofs.YtdhobdmhnocbgaaDoor.Zr
