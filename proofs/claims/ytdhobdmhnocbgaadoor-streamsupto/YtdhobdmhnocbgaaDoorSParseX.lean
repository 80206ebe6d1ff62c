/-
  Walks: the wire's Parse, the zone's Parse.
-/
/-
  Walks: the wire's Parse, the zone's Parse.
-/
import Derived.Test.YtdhobdmhnocbgaaDoorSStB
namespace Go.Proofs.YtdhobdmhnocbgaaDoor
open Go.RowKit Zr

def noMsg : Msg := ⟨0, 0, [], [], [], []⟩
def noVal : Value := .agg #[.int .i64 0, .int .i64 0, .slice none 0 0, .slice none 0 0, .slice none 0 0, .slice none 0 0]

/-- What is read from the front, and where it ends. -/
def msgP (b : ByteArray) : Except Int (Msg × Nat) :=
  if b.size < 12 then .error 2
  else match qsTo b 12 (num b 4 2) with
    | .error e => .error e
    | .ok (q, p1) => match rcTo b 0 p1 (num b 6 2) with
      | .error e => .error e
      | .ok (a, p2) => match rcTo b 1 p2 (num b 8 2) with
        | .error e => .error e
        | .ok (u, p3) => match rcTo b 2 p3 (num b 10 2) with
          | .error e => .error e
          | .ok (x, p4) => .ok (⟨num b 0 2, num b 2 2, q, a, u, x⟩, p4)

end Go.Proofs.YtdhobdmhnocbgaaDoor

namespace Go.Proofs.YtdhobdmhnocbgaaDoor
open Go.RowKit Zr

def errOf (r : Except Int Msg) : Int := match r with
  | .ok _ => 0
  | .error x => x
def msgOf (r : Except Int Msg) : Msg := match r with
  | .ok m => m
  | .error _ => noMsg

end Go.Proofs.YtdhobdmhnocbgaaDoor
