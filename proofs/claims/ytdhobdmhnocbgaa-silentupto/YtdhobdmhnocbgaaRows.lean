/-
  No cell of these rows narrows 'for every input' (looked for: loops, veiled, ifaces, maps, wideKeys, modest, calm, conditions, laid).
  DERIVED. THE GIVEN ROWS OF THIS SEAT. 8 by the template 'for every input the law returns true; each argument reads behind the call as it read before'; 0 by the template 'total and deterministic' (their statements: YtdhobdmhnocbgaaTotals.lean).
  GIVEN WITH THE SEED: the statements are not yours to turn. If you find one false, say at which input.
  Laid BY PROGRAM, IN A SANDBOX (cutbox-rows.mjs): the forced cells as the released guide's own fill.sh prints them over the translation 1f6d7950857b7f30… (all of the seat's roots in one cut). By AI agents, Wed Nov 11 2026. No macro, syntax, notation, axiom, sorry.
-/
import Derived.Test.YtdhobdmhnocbgaaChecked
import GoSem.Claim
import GoSem.ClaimJoined
import GoSem.ClaimMapViews
import Derived.JoinedTies
import Derived.KernelRfl
namespace Go.Proofs.Ytdhobdmhnocbgaa
/- THE CELL 'sum', in the pinned program and in every row, IS THE sha256 OF THE DUMP (.gsa) THAT YtdhobdmhnocbgaaProg.lean LOADS. Nothing in Lean hashes anything: it is a label: what it is worth is what the hold of that sum in a sandbox is worth. -/
noncomputable def Try.pinned : Pinned := { name := "ytdhobdmhnocbgaa", sum := "1f6d7950857b7f30c8048895511d50409f44205fbd677233c64bb5ab4e9ffc81", checked := Try.checked }
namespace Rows
def none {H : Type} : Left H := { results := [], args := [] }

/-- 'zonelaw.Parses': WHATEVER THE INPUT: true; the input reads as it did. -/
def parsesSpec : ChangeSpec := { name := "parses", fn := fun _ => fun
  | [d] => { results := [.lit (.bool true)], args := [d] }
  | _ => none }
def parsesRow : OpenClaim := { program := "ytdhobdmhnocbgaa", sum := "1f6d7950857b7f30c8048895511d50409f44205fbd677233c64bb5ab4e9ffc81", func := "zone/zonelaw.Parses", spec := "parses", recurses := true, apart := false }
def ParsesSaid : Prop := parsesRow.holds Try.pinned (OpenSpec.ofChange parsesSpec)

/-- ITS FALSE NEIGHBOUR: 'it returns false'. Refute it at one input. -/
def parsesWrong : ChangeSpec := { name := "parses", fn := fun _ => fun
  | [d] => { results := [.lit (.bool false)], args := [d] }
  | _ => none }
def ParsesWrongFalsely : Prop := parsesRow.holds Try.pinned (OpenSpec.ofChange parsesWrong)

/-- 'zonelaw.Serials': WHATEVER THE INPUT: true; the input reads as it did. -/
def serialsSpec : ChangeSpec := { name := "serials", fn := fun _ => fun
  | [d] => { results := [.lit (.bool true)], args := [d] }
  | _ => none }
def serialsRow : OpenClaim := { program := "ytdhobdmhnocbgaa", sum := "1f6d7950857b7f30c8048895511d50409f44205fbd677233c64bb5ab4e9ffc81", func := "zone/zonelaw.Serials", spec := "serials", recurses := true, apart := false }
def SerialsSaid : Prop := serialsRow.holds Try.pinned (OpenSpec.ofChange serialsSpec)

/-- ITS FALSE NEIGHBOUR: 'it returns false'. Refute it at one input. -/
def serialsWrong : ChangeSpec := { name := "serials", fn := fun _ => fun
  | [d] => { results := [.lit (.bool false)], args := [d] }
  | _ => none }
def SerialsWrongFalsely : Prop := serialsRow.holds Try.pinned (OpenSpec.ofChange serialsWrong)

/-- 'zonekeep.Back': WHATEVER THE INPUT: true; the input reads as it did. -/
def backSpec : ChangeSpec := { name := "back", fn := fun _ => fun
  | [d] => { results := [.lit (.bool true)], args := [d] }
  | _ => none }
def backRow : OpenClaim := { program := "ytdhobdmhnocbgaa", sum := "1f6d7950857b7f30c8048895511d50409f44205fbd677233c64bb5ab4e9ffc81", func := "zone/zonekeep.Back", spec := "back", apart := false }
def BackSaid : Prop := backRow.holds Try.pinned (OpenSpec.ofChange backSpec)

/-- ITS FALSE NEIGHBOUR: 'it returns false'. Refute it at one input. -/
def backWrong : ChangeSpec := { name := "back", fn := fun _ => fun
  | [d] => { results := [.lit (.bool false)], args := [d] }
  | _ => none }
def BackWrongFalsely : Prop := backRow.holds Try.pinned (OpenSpec.ofChange backWrong)

/-- 'zonekeep.Denoted': WHATEVER THE INPUT: true; the input reads as it did. -/
def denotedSpec : ChangeSpec := { name := "denoted", fn := fun _ => fun
  | [d] => { results := [.lit (.bool true)], args := [d] }
  | _ => none }
def denotedRow : OpenClaim := { program := "ytdhobdmhnocbgaa", sum := "1f6d7950857b7f30c8048895511d50409f44205fbd677233c64bb5ab4e9ffc81", func := "zone/zonekeep.Denoted", spec := "denoted", apart := false }
def DenotedSaid : Prop := denotedRow.holds Try.pinned (OpenSpec.ofChange denotedSpec)

/-- ITS FALSE NEIGHBOUR: 'it returns false'. Refute it at one input. -/
def denotedWrong : ChangeSpec := { name := "denoted", fn := fun _ => fun
  | [d] => { results := [.lit (.bool false)], args := [d] }
  | _ => none }
def DenotedWrongFalsely : Prop := denotedRow.holds Try.pinned (OpenSpec.ofChange denotedWrong)

/-- 'zonekeep.Split': WHATEVER THE INPUT: true; the input reads as it did. -/
def splitSpec : ChangeSpec := { name := "split", fn := fun _ => fun
  | [d1, d2] => { results := [.lit (.bool true)], args := [d1, d2] }
  | _ => none }
def splitRow : OpenClaim := { program := "ytdhobdmhnocbgaa", sum := "1f6d7950857b7f30c8048895511d50409f44205fbd677233c64bb5ab4e9ffc81", func := "zone/zonekeep.Split", spec := "split", apart := false }
def SplitSaid : Prop := splitRow.holds Try.pinned (OpenSpec.ofChange splitSpec)

/-- ITS FALSE NEIGHBOUR: 'it returns false'. Refute it at one input. -/
def splitWrong : ChangeSpec := { name := "split", fn := fun _ => fun
  | [d1, d2] => { results := [.lit (.bool false)], args := [d1, d2] }
  | _ => none }
def SplitWrongFalsely : Prop := splitRow.holds Try.pinned (OpenSpec.ofChange splitWrong)

/-- 'zonelaw.Folds': WHATEVER THE INPUT: true; the input reads as it did. -/
def foldsSpec : ChangeSpec := { name := "folds", fn := fun _ => fun
  | [d] => { results := [.lit (.bool true)], args := [d] }
  | _ => none }
def foldsRow : OpenClaim := { program := "ytdhobdmhnocbgaa", sum := "1f6d7950857b7f30c8048895511d50409f44205fbd677233c64bb5ab4e9ffc81", func := "zone/zonelaw.Folds", spec := "folds", recurses := true, apart := false }
def FoldsSaid : Prop := foldsRow.holds Try.pinned (OpenSpec.ofChange foldsSpec)

/-- ITS FALSE NEIGHBOUR: 'it returns false'. Refute it at one input. -/
def foldsWrong : ChangeSpec := { name := "folds", fn := fun _ => fun
  | [d] => { results := [.lit (.bool false)], args := [d] }
  | _ => none }
def FoldsWrongFalsely : Prop := foldsRow.holds Try.pinned (OpenSpec.ofChange foldsWrong)

/-- 'zonekeep.Newest': WHATEVER THE INPUT: true; the input reads as it did. -/
def newestSpec : ChangeSpec := { name := "newest", fn := fun _ => fun
  | [d1, d2, d3] => { results := [.lit (.bool true)], args := [d1, d2, d3] }
  | _ => none }
def newestRow : OpenClaim := { program := "ytdhobdmhnocbgaa", sum := "1f6d7950857b7f30c8048895511d50409f44205fbd677233c64bb5ab4e9ffc81", func := "zone/zonekeep.Newest", spec := "newest", recurses := true, apart := false }
def NewestSaid : Prop := newestRow.holds Try.pinned (OpenSpec.ofChange newestSpec)

/-- ITS FALSE NEIGHBOUR: 'it returns false'. Refute it at one input. -/
def newestWrong : ChangeSpec := { name := "newest", fn := fun _ => fun
  | [d1, d2, d3] => { results := [.lit (.bool false)], args := [d1, d2, d3] }
  | _ => none }
def NewestWrongFalsely : Prop := newestRow.holds Try.pinned (OpenSpec.ofChange newestWrong)

/-- 'zonekeep.Silent': WHATEVER THE INPUT: true; the input reads as it did. -/
def silentSpec : ChangeSpec := { name := "silent", fn := fun _ => fun
  | [d1, d2, d3] => { results := [.lit (.bool true)], args := [d1, d2, d3] }
  | _ => none }
def silentRow : OpenClaim := { program := "ytdhobdmhnocbgaa", sum := "1f6d7950857b7f30c8048895511d50409f44205fbd677233c64bb5ab4e9ffc81", func := "zone/zonekeep.Silent", spec := "silent", recurses := true, apart := false }
def SilentSaid : Prop := silentRow.holds Try.pinned (OpenSpec.ofChange silentSpec)

/-- ITS FALSE NEIGHBOUR: 'it returns false'. Refute it at one input. -/
def silentWrong : ChangeSpec := { name := "silent", fn := fun _ => fun
  | [d1, d2, d3] => { results := [.lit (.bool false)], args := [d1, d2, d3] }
  | _ => none }
def SilentWrongFalsely : Prop := silentRow.holds Try.pinned (OpenSpec.ofChange silentWrong)

/- THE SECOND FORM. 'bulk': how many values and letters a reading holds, each counted each time it is reached (what is shared counts as often as it is met; a slice's spare places count too). A statement '..UptoSaid' is the law's where the arguments, and the package variables that the reading takes, are together of bulk at most 1048576: NARROWER than '..Said'. Prove '..Said' where nothing that the law and all that it calls make is longer than what came in: it says more and counts as full. Else prove '..UptoSaid'. A law counts once. -/
mutual
def uptoBulk {H : Type} : DataW H → Nat
  | .lit (.string bytes) => bytes.length + 1
  | .lit _ => 1
  | .nil => 1
  | .ptr d => uptoBulk d + 1
  | .slice elems spare => uptoBulkAll elems + uptoBulkAll spare + 1
  | .agg parts => uptoBulkAll parts + 1
  | .iface _ d => uptoBulk d + 1
  | .map entries => uptoBulkEntries entries + 1
  | .held _ => 1
def uptoBulkAll {H : Type} : List (DataW H) → Nat
  | [] => 0
  | d :: r => uptoBulk d + uptoBulkAll r
def uptoBulkEntries {H : Type} : List (Lit × DataW H) → Nat
  | [] => 0
  | x :: r => uptoBulkEntry x + uptoBulkEntries r
def uptoBulkEntry {H : Type} : Lit × DataW H → Nat
  | (.string bytes, d) => bytes.length + uptoBulk d + 1
  | (_, d) => uptoBulk d + 1
 end
def uptoSmall : (H : Type) → List (DataW H) → Bool := fun _ ds => decide (uptoBulkAll ds ≤ 1048576)
def OpenSpec.upto (s : _root_.Go.ChangeSpec) : _root_.Go.OpenSpec := { _root_.Go.OpenSpec.ofChange s with cond := some uptoSmall }

/-- 'zonelaw.Parses', WHERE WHAT IT READS IS OF BULK AT MOST 1048576: true; the input reads as it did. -/
def parsesUptoRow : OpenClaim := { program := "ytdhobdmhnocbgaa", sum := "1f6d7950857b7f30c8048895511d50409f44205fbd677233c64bb5ab4e9ffc81", func := "zone/zonelaw.Parses", spec := "parses", recurses := true, apart := false, narrowed := true }
def ParsesUptoSaid : Prop := parsesUptoRow.holds Try.pinned (OpenSpec.upto parsesSpec)

/-- 'zonelaw.Serials', WHERE WHAT IT READS IS OF BULK AT MOST 1048576: true; the input reads as it did. -/
def serialsUptoRow : OpenClaim := { program := "ytdhobdmhnocbgaa", sum := "1f6d7950857b7f30c8048895511d50409f44205fbd677233c64bb5ab4e9ffc81", func := "zone/zonelaw.Serials", spec := "serials", recurses := true, apart := false, narrowed := true }
def SerialsUptoSaid : Prop := serialsUptoRow.holds Try.pinned (OpenSpec.upto serialsSpec)

/-- 'zonekeep.Back', WHERE WHAT IT READS IS OF BULK AT MOST 1048576: true; the input reads as it did. -/
def backUptoRow : OpenClaim := { program := "ytdhobdmhnocbgaa", sum := "1f6d7950857b7f30c8048895511d50409f44205fbd677233c64bb5ab4e9ffc81", func := "zone/zonekeep.Back", spec := "back", apart := false, narrowed := true }
def BackUptoSaid : Prop := backUptoRow.holds Try.pinned (OpenSpec.upto backSpec)

/-- 'zonekeep.Denoted', WHERE WHAT IT READS IS OF BULK AT MOST 1048576: true; the input reads as it did. -/
def denotedUptoRow : OpenClaim := { program := "ytdhobdmhnocbgaa", sum := "1f6d7950857b7f30c8048895511d50409f44205fbd677233c64bb5ab4e9ffc81", func := "zone/zonekeep.Denoted", spec := "denoted", apart := false, narrowed := true }
def DenotedUptoSaid : Prop := denotedUptoRow.holds Try.pinned (OpenSpec.upto denotedSpec)

/-- 'zonekeep.Split', WHERE WHAT IT READS IS OF BULK AT MOST 1048576: true; the input reads as it did. -/
def splitUptoRow : OpenClaim := { program := "ytdhobdmhnocbgaa", sum := "1f6d7950857b7f30c8048895511d50409f44205fbd677233c64bb5ab4e9ffc81", func := "zone/zonekeep.Split", spec := "split", apart := false, narrowed := true }
def SplitUptoSaid : Prop := splitUptoRow.holds Try.pinned (OpenSpec.upto splitSpec)

/-- 'zonelaw.Folds', WHERE WHAT IT READS IS OF BULK AT MOST 1048576: true; the input reads as it did. -/
def foldsUptoRow : OpenClaim := { program := "ytdhobdmhnocbgaa", sum := "1f6d7950857b7f30c8048895511d50409f44205fbd677233c64bb5ab4e9ffc81", func := "zone/zonelaw.Folds", spec := "folds", recurses := true, apart := false, narrowed := true }
def FoldsUptoSaid : Prop := foldsUptoRow.holds Try.pinned (OpenSpec.upto foldsSpec)

/-- 'zonekeep.Newest', WHERE WHAT IT READS IS OF BULK AT MOST 1048576: true; the input reads as it did. -/
def newestUptoRow : OpenClaim := { program := "ytdhobdmhnocbgaa", sum := "1f6d7950857b7f30c8048895511d50409f44205fbd677233c64bb5ab4e9ffc81", func := "zone/zonekeep.Newest", spec := "newest", recurses := true, apart := false, narrowed := true }
def NewestUptoSaid : Prop := newestUptoRow.holds Try.pinned (OpenSpec.upto newestSpec)

/-- 'zonekeep.Silent', WHERE WHAT IT READS IS OF BULK AT MOST 1048576: true; the input reads as it did. -/
def silentUptoRow : OpenClaim := { program := "ytdhobdmhnocbgaa", sum := "1f6d7950857b7f30c8048895511d50409f44205fbd677233c64bb5ab4e9ffc81", func := "zone/zonekeep.Silent", spec := "silent", recurses := true, apart := false, narrowed := true }
def SilentUptoSaid : Prop := silentUptoRow.holds Try.pinned (OpenSpec.upto silentSpec)

end Rows
end Go.Proofs.Ytdhobdmhnocbgaa
