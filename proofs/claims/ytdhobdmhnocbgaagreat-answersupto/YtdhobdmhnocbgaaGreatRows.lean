/-
  No cell of these rows narrows 'for every input' (looked for: loops, veiled, ifaces, maps, wideKeys, modest, calm, conditions, laid).
  DERIVED. THE GIVEN ROWS OF THIS SEAT. 3 by the template 'for every input the law returns true; each argument reads behind the call as it read before'; 0 by the template 'total and deterministic' (their statements: YtdhobdmhnocbgaaGreatTotals.lean).
  GIVEN WITH THE SEED: the statements are not yours to turn. If you find one false, say at which input.
  Laid BY PROGRAM, IN A SANDBOX (cutbox-rows.mjs): the forced cells as the released guide's own fill.sh prints them over the translation 0b8c48238305164e… (all of the seat's roots in one cut). By AI agents, Wed Nov 11 2026. No macro, syntax, notation, axiom, sorry.
-/
import Derived.Test.YtdhobdmhnocbgaaGreatChecked
import GoSem.Claim
import GoSem.ClaimJoined
import GoSem.ClaimMapViews
import Derived.JoinedTies
import Derived.KernelRfl
namespace Go.Proofs.YtdhobdmhnocbgaaGreat
/- THE CELL 'sum', in the pinned program and in every row, IS THE sha256 OF THE DUMP (.gsa) THAT YtdhobdmhnocbgaaGreatProg.lean LOADS. Nothing in Lean hashes anything: it is a label: what it is worth is what the hold of that sum in a sandbox is worth. -/
noncomputable def Tryz.pinned : Pinned := { name := "ytdhobdmhnocbgaagreat", sum := "0b8c48238305164e86ab4c4e120acd277c4e1ecfe3a2aef2c7ee493ca9aa02ec", checked := Tryz.checked }
namespace Rows
def none {H : Type} : Left H := { results := [], args := [] }

/-- 'zonelaw.Answers': WHATEVER THE INPUT: true; the input reads as it did. -/
def answersSpec : ChangeSpec := { name := "answers", fn := fun _ => fun
  | [d1, d2, d3] => { results := [.lit (.bool true)], args := [d1, d2, d3] }
  | _ => none }
def answersRow : OpenClaim := { program := "ytdhobdmhnocbgaagreat", sum := "0b8c48238305164e86ab4c4e120acd277c4e1ecfe3a2aef2c7ee493ca9aa02ec", func := "zone/zonelaw.Answers", spec := "answers", recurses := true, apart := false }
def AnswersSaid : Prop := answersRow.holds Tryz.pinned (OpenSpec.ofChange answersSpec)

/-- ITS FALSE NEIGHBOUR: 'it returns false'. Refute it at one input. -/
def answersWrong : ChangeSpec := { name := "answers", fn := fun _ => fun
  | [d1, d2, d3] => { results := [.lit (.bool false)], args := [d1, d2, d3] }
  | _ => none }
def AnswersWrongFalsely : Prop := answersRow.holds Tryz.pinned (OpenSpec.ofChange answersWrong)

/-- 'zonekeep.Shuffled': WHATEVER THE INPUT: true; the input reads as it did. -/
def shuffledSpec : ChangeSpec := { name := "shuffled", fn := fun _ => fun
  | [d1, d2, d3, d4] => { results := [.lit (.bool true)], args := [d1, d2, d3, d4] }
  | _ => none }
def shuffledRow : OpenClaim := { program := "ytdhobdmhnocbgaagreat", sum := "0b8c48238305164e86ab4c4e120acd277c4e1ecfe3a2aef2c7ee493ca9aa02ec", func := "zone/zonekeep.Shuffled", spec := "shuffled", recurses := true, apart := false }
def ShuffledSaid : Prop := shuffledRow.holds Tryz.pinned (OpenSpec.ofChange shuffledSpec)

/-- ITS FALSE NEIGHBOUR: 'it returns false'. Refute it at one input. -/
def shuffledWrong : ChangeSpec := { name := "shuffled", fn := fun _ => fun
  | [d1, d2, d3, d4] => { results := [.lit (.bool false)], args := [d1, d2, d3, d4] }
  | _ => none }
def ShuffledWrongFalsely : Prop := shuffledRow.holds Tryz.pinned (OpenSpec.ofChange shuffledWrong)

/-- 'zonekeep.Fits': WHATEVER THE INPUT: true; the input reads as it did. -/
def fitsSpec : ChangeSpec := { name := "fits", fn := fun _ => fun
  | [d1, d2, d3] => { results := [.lit (.bool true)], args := [d1, d2, d3] }
  | _ => none }
def fitsRow : OpenClaim := { program := "ytdhobdmhnocbgaagreat", sum := "0b8c48238305164e86ab4c4e120acd277c4e1ecfe3a2aef2c7ee493ca9aa02ec", func := "zone/zonekeep.Fits", spec := "fits", recurses := true, apart := false }
def FitsSaid : Prop := fitsRow.holds Tryz.pinned (OpenSpec.ofChange fitsSpec)

/-- ITS FALSE NEIGHBOUR: 'it returns false'. Refute it at one input. -/
def fitsWrong : ChangeSpec := { name := "fits", fn := fun _ => fun
  | [d1, d2, d3] => { results := [.lit (.bool false)], args := [d1, d2, d3] }
  | _ => none }
def FitsWrongFalsely : Prop := fitsRow.holds Tryz.pinned (OpenSpec.ofChange fitsWrong)

/- THE SECOND FORM. 'bulk': how many values and letters a reading holds, each counted each time it is reached (what is shared counts as often as it is met; a slice's spare places count too). A statement '..UptoSaid' is the law's where the arguments, and the package variables that the reading takes, are together of bulk at most 1048576: NARROWER than '..Said'. Prove '..Said' where nothing that the law and all that it calls make is longer than what came in: it says more and counts as full. Else prove '..UptoSaid'. A law counts once. -/
mutual
def uptoBulk {H : Type} : DataW H → Nat
  | .lit (.string bytes) => bytes.length + 1
  | .lit _ => 1
  | .nil => 1
  | .ptr d => uptoBulk d + 1
  | .slice elems spare => uptoBulkAll elems + uptoBulkAll spare + 1
  | .agg parts => uptoBulkAll parts + 1
  | .iface _ d => uptoBulk d + 1
  | .map entries => uptoBulkEntries entries + 1
  | .held _ => 1
def uptoBulkAll {H : Type} : List (DataW H) → Nat
  | [] => 0
  | d :: r => uptoBulk d + uptoBulkAll r
def uptoBulkEntries {H : Type} : List (Lit × DataW H) → Nat
  | [] => 0
  | x :: r => uptoBulkEntry x + uptoBulkEntries r
def uptoBulkEntry {H : Type} : Lit × DataW H → Nat
  | (.string bytes, d) => bytes.length + uptoBulk d + 1
  | (_, d) => uptoBulk d + 1
 end
def uptoSmall : (H : Type) → List (DataW H) → Bool := fun _ ds => decide (uptoBulkAll ds ≤ 1048576)
def OpenSpec.upto (s : _root_.Go.ChangeSpec) : _root_.Go.OpenSpec := { _root_.Go.OpenSpec.ofChange s with cond := some uptoSmall }

/-- 'zonelaw.Answers', WHERE WHAT IT READS IS OF BULK AT MOST 1048576: true; the input reads as it did. -/
def answersUptoRow : OpenClaim := { program := "ytdhobdmhnocbgaagreat", sum := "0b8c48238305164e86ab4c4e120acd277c4e1ecfe3a2aef2c7ee493ca9aa02ec", func := "zone/zonelaw.Answers", spec := "answers", recurses := true, apart := false, narrowed := true }
def AnswersUptoSaid : Prop := answersUptoRow.holds Tryz.pinned (OpenSpec.upto answersSpec)

/-- 'zonekeep.Shuffled', WHERE WHAT IT READS IS OF BULK AT MOST 1048576: true; the input reads as it did. -/
def shuffledUptoRow : OpenClaim := { program := "ytdhobdmhnocbgaagreat", sum := "0b8c48238305164e86ab4c4e120acd277c4e1ecfe3a2aef2c7ee493ca9aa02ec", func := "zone/zonekeep.Shuffled", spec := "shuffled", recurses := true, apart := false, narrowed := true }
def ShuffledUptoSaid : Prop := shuffledUptoRow.holds Tryz.pinned (OpenSpec.upto shuffledSpec)

/-- 'zonekeep.Fits', WHERE WHAT IT READS IS OF BULK AT MOST 1048576: true; the input reads as it did. -/
def fitsUptoRow : OpenClaim := { program := "ytdhobdmhnocbgaagreat", sum := "0b8c48238305164e86ab4c4e120acd277c4e1ecfe3a2aef2c7ee493ca9aa02ec", func := "zone/zonekeep.Fits", spec := "fits", recurses := true, apart := false, narrowed := true }
def FitsUptoSaid : Prop := fitsUptoRow.holds Tryz.pinned (OpenSpec.upto fitsSpec)

end Rows
end Go.Proofs.YtdhobdmhnocbgaaGreat
