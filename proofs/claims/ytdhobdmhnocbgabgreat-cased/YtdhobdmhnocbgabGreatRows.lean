/-
  No cell of these rows narrows 'for every input' (looked for: loops, veiled, ifaces, maps, wideKeys, modest, calm, conditions, laid).
  DERIVED. THE GIVEN ROWS OF THIS SEAT. 5 by the template 'for every input the law returns true; each argument reads behind the call as it read before'; 0 by the template 'total and deterministic' (their statements: YtdhobdmhnocbgabGreatTotals.lean).
  GIVEN WITH THE SEED: the statements are not yours to turn. If you find one false, say at which input.
  Laid BY PROGRAM, IN A SANDBOX (cutbox-rows.mjs): the forced cells as the released guide's own fill.sh prints them over the translation 3a5b31ada465a8e5… (all of the seat's roots in one cut). By AI agents, Wed Nov 11 2026. No macro, syntax, notation, axiom, sorry.
-/
import Derived.Test.YtdhobdmhnocbgabGreatChecked
import GoSem.Claim
import GoSem.ClaimJoined
import GoSem.ClaimMapViews
import Derived.JoinedTies
import Derived.KernelRfl
namespace Go.Proofs.YtdhobdmhnocbgabGreat
/- THE CELL 'sum', in the pinned program and in every row, IS THE sha256 OF THE DUMP (.gsa) THAT YtdhobdmhnocbgabGreatProg.lean LOADS. Nothing in Lean hashes anything: it is a label: what it is worth is what the hold of that sum in a sandbox is worth. -/
noncomputable def Tryz.pinned : Pinned := { name := "ytdhobdmhnocbgabgreat", sum := "3a5b31ada465a8e52f048f9467336a85e33e5df00d3533ac10e9d323cbc01d4f", checked := Tryz.checked }
namespace Rows
def none {H : Type} : Left H := { results := [], args := [] }

/-- 'zonekeep.Whole': WHATEVER THE INPUT: true; the input reads as it did. -/
def wholeSpec : ChangeSpec := { name := "whole", fn := fun _ => fun
  | [d1, d2, d3] => { results := [.lit (.bool true)], args := [d1, d2, d3] }
  | _ => none }
def wholeRow : OpenClaim := { program := "ytdhobdmhnocbgabgreat", sum := "3a5b31ada465a8e52f048f9467336a85e33e5df00d3533ac10e9d323cbc01d4f", func := "zone/zonekeep.Whole", spec := "whole", recurses := true, apart := false }
def WholeSaid : Prop := wholeRow.holds Tryz.pinned (OpenSpec.ofChange wholeSpec)

/-- ITS FALSE NEIGHBOUR: 'it returns false'. Refute it at one input. -/
def wholeWrong : ChangeSpec := { name := "whole", fn := fun _ => fun
  | [d1, d2, d3] => { results := [.lit (.bool false)], args := [d1, d2, d3] }
  | _ => none }
def WholeWrongFalsely : Prop := wholeRow.holds Tryz.pinned (OpenSpec.ofChange wholeWrong)

/-- 'zonekeep.Nowhere': WHATEVER THE INPUT: true; the input reads as it did. -/
def nowhereSpec : ChangeSpec := { name := "nowhere", fn := fun _ => fun
  | [d1, d2, d3] => { results := [.lit (.bool true)], args := [d1, d2, d3] }
  | _ => none }
def nowhereRow : OpenClaim := { program := "ytdhobdmhnocbgabgreat", sum := "3a5b31ada465a8e52f048f9467336a85e33e5df00d3533ac10e9d323cbc01d4f", func := "zone/zonekeep.Nowhere", spec := "nowhere", recurses := true, apart := false }
def NowhereSaid : Prop := nowhereRow.holds Tryz.pinned (OpenSpec.ofChange nowhereSpec)

/-- ITS FALSE NEIGHBOUR: 'it returns false'. Refute it at one input. -/
def nowhereWrong : ChangeSpec := { name := "nowhere", fn := fun _ => fun
  | [d1, d2, d3] => { results := [.lit (.bool false)], args := [d1, d2, d3] }
  | _ => none }
def NowhereWrongFalsely : Prop := nowhereRow.holds Tryz.pinned (OpenSpec.ofChange nowhereWrong)

/-- 'zonekeep.Found': WHATEVER THE INPUT: true; the input reads as it did. -/
def foundSpec : ChangeSpec := { name := "found", fn := fun _ => fun
  | [d1, d2, d3, d4, d5] => { results := [.lit (.bool true)], args := [d1, d2, d3, d4, d5] }
  | _ => none }
def foundRow : OpenClaim := { program := "ytdhobdmhnocbgabgreat", sum := "3a5b31ada465a8e52f048f9467336a85e33e5df00d3533ac10e9d323cbc01d4f", func := "zone/zonekeep.Found", spec := "found", recurses := true, apart := false }
def FoundSaid : Prop := foundRow.holds Tryz.pinned (OpenSpec.ofChange foundSpec)

/-- ITS FALSE NEIGHBOUR: 'it returns false'. Refute it at one input. -/
def foundWrong : ChangeSpec := { name := "found", fn := fun _ => fun
  | [d1, d2, d3, d4, d5] => { results := [.lit (.bool false)], args := [d1, d2, d3, d4, d5] }
  | _ => none }
def FoundWrongFalsely : Prop := foundRow.holds Tryz.pinned (OpenSpec.ofChange foundWrong)

/-- 'zonekeep.Cased': WHATEVER THE INPUT: true; the input reads as it did. -/
def casedSpec : ChangeSpec := { name := "cased", fn := fun _ => fun
  | [d1, d2, d3] => { results := [.lit (.bool true)], args := [d1, d2, d3] }
  | _ => none }
def casedRow : OpenClaim := { program := "ytdhobdmhnocbgabgreat", sum := "3a5b31ada465a8e52f048f9467336a85e33e5df00d3533ac10e9d323cbc01d4f", func := "zone/zonekeep.Cased", spec := "cased", recurses := true, apart := false }
def CasedSaid : Prop := casedRow.holds Tryz.pinned (OpenSpec.ofChange casedSpec)

/-- ITS FALSE NEIGHBOUR: 'it returns false'. Refute it at one input. -/
def casedWrong : ChangeSpec := { name := "cased", fn := fun _ => fun
  | [d1, d2, d3] => { results := [.lit (.bool false)], args := [d1, d2, d3] }
  | _ => none }
def CasedWrongFalsely : Prop := casedRow.holds Tryz.pinned (OpenSpec.ofChange casedWrong)

/-- 'zonekeep.Larger': WHATEVER THE INPUT: true; the input reads as it did. -/
def largerSpec : ChangeSpec := { name := "larger", fn := fun _ => fun
  | [d1, d2] => { results := [.lit (.bool true)], args := [d1, d2] }
  | _ => none }
def largerRow : OpenClaim := { program := "ytdhobdmhnocbgabgreat", sum := "3a5b31ada465a8e52f048f9467336a85e33e5df00d3533ac10e9d323cbc01d4f", func := "zone/zonekeep.Larger", spec := "larger", recurses := true, apart := false }
def LargerSaid : Prop := largerRow.holds Tryz.pinned (OpenSpec.ofChange largerSpec)

/-- ITS FALSE NEIGHBOUR: 'it returns false'. Refute it at one input. -/
def largerWrong : ChangeSpec := { name := "larger", fn := fun _ => fun
  | [d1, d2] => { results := [.lit (.bool false)], args := [d1, d2] }
  | _ => none }
def LargerWrongFalsely : Prop := largerRow.holds Tryz.pinned (OpenSpec.ofChange largerWrong)

/- THE SECOND FORM. 'bulk': how many values and letters a reading holds, each counted each time it is reached (what is shared counts as often as it is met; a slice's spare places count too). A statement '..UptoSaid' is the law's where the arguments, and the package variables that the reading takes, are together of bulk at most 1048576: NARROWER than '..Said'. Prove '..Said' where nothing that the law and all that it calls make is longer than what came in: it says more and counts as full. Else prove '..UptoSaid'. A law counts once. -/
mutual
def uptoBulk {H : Type} : DataW H → Nat
  | .lit (.string bytes) => bytes.length + 1
  | .lit _ => 1
  | .nil => 1
  | .ptr d => uptoBulk d + 1
  | .slice elems spare => uptoBulkAll elems + uptoBulkAll spare + 1
  | .agg parts => uptoBulkAll parts + 1
  | .iface _ d => uptoBulk d + 1
  | .map entries => uptoBulkEntries entries + 1
  | .held _ => 1
def uptoBulkAll {H : Type} : List (DataW H) → Nat
  | [] => 0
  | d :: r => uptoBulk d + uptoBulkAll r
def uptoBulkEntries {H : Type} : List (Lit × DataW H) → Nat
  | [] => 0
  | x :: r => uptoBulkEntry x + uptoBulkEntries r
def uptoBulkEntry {H : Type} : Lit × DataW H → Nat
  | (.string bytes, d) => bytes.length + uptoBulk d + 1
  | (_, d) => uptoBulk d + 1
 end
def uptoSmall : (H : Type) → List (DataW H) → Bool := fun _ ds => decide (uptoBulkAll ds ≤ 1048576)
def OpenSpec.upto (s : _root_.Go.ChangeSpec) : _root_.Go.OpenSpec := { _root_.Go.OpenSpec.ofChange s with cond := some uptoSmall }

/-- 'zonekeep.Whole', WHERE WHAT IT READS IS OF BULK AT MOST 1048576: true; the input reads as it did. -/
def wholeUptoRow : OpenClaim := { program := "ytdhobdmhnocbgabgreat", sum := "3a5b31ada465a8e52f048f9467336a85e33e5df00d3533ac10e9d323cbc01d4f", func := "zone/zonekeep.Whole", spec := "whole", recurses := true, apart := false, narrowed := true }
def WholeUptoSaid : Prop := wholeUptoRow.holds Tryz.pinned (OpenSpec.upto wholeSpec)

/-- 'zonekeep.Nowhere', WHERE WHAT IT READS IS OF BULK AT MOST 1048576: true; the input reads as it did. -/
def nowhereUptoRow : OpenClaim := { program := "ytdhobdmhnocbgabgreat", sum := "3a5b31ada465a8e52f048f9467336a85e33e5df00d3533ac10e9d323cbc01d4f", func := "zone/zonekeep.Nowhere", spec := "nowhere", recurses := true, apart := false, narrowed := true }
def NowhereUptoSaid : Prop := nowhereUptoRow.holds Tryz.pinned (OpenSpec.upto nowhereSpec)

/-- 'zonekeep.Found', WHERE WHAT IT READS IS OF BULK AT MOST 1048576: true; the input reads as it did. -/
def foundUptoRow : OpenClaim := { program := "ytdhobdmhnocbgabgreat", sum := "3a5b31ada465a8e52f048f9467336a85e33e5df00d3533ac10e9d323cbc01d4f", func := "zone/zonekeep.Found", spec := "found", recurses := true, apart := false, narrowed := true }
def FoundUptoSaid : Prop := foundUptoRow.holds Tryz.pinned (OpenSpec.upto foundSpec)

/-- 'zonekeep.Cased', WHERE WHAT IT READS IS OF BULK AT MOST 1048576: true; the input reads as it did. -/
def casedUptoRow : OpenClaim := { program := "ytdhobdmhnocbgabgreat", sum := "3a5b31ada465a8e52f048f9467336a85e33e5df00d3533ac10e9d323cbc01d4f", func := "zone/zonekeep.Cased", spec := "cased", recurses := true, apart := false, narrowed := true }
def CasedUptoSaid : Prop := casedUptoRow.holds Tryz.pinned (OpenSpec.upto casedSpec)

/-- 'zonekeep.Larger', WHERE WHAT IT READS IS OF BULK AT MOST 1048576: true; the input reads as it did. -/
def largerUptoRow : OpenClaim := { program := "ytdhobdmhnocbgabgreat", sum := "3a5b31ada465a8e52f048f9467336a85e33e5df00d3533ac10e9d323cbc01d4f", func := "zone/zonekeep.Larger", spec := "larger", recurses := true, apart := false, narrowed := true }
def LargerUptoSaid : Prop := largerUptoRow.holds Tryz.pinned (OpenSpec.upto largerSpec)

end Rows
end Go.Proofs.YtdhobdmhnocbgabGreat
