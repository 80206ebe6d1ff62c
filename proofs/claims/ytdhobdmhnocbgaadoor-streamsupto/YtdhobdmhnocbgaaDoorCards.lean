/-
  DERIVED. GIVEN WITH THE SEED: THE CARDS: each row of YtdhobdmhnocbgaaDoorRows.lean that lists a variable, with what it lists TIED to the program's text (the seventh form; the later family's looks); each row that meets fmt, with fmt's text TOLD by the authors' own Lean function (tested against real Go, not proved from fmt's source: count such statements apart). THE CARD IS WHAT COUNTS. Prove the row's statement (the work); the ties are given (YtdhobdmhnocbgaaDoorTie.lean); close each card by the builder's one call (the guide's Derived/Test/ToyasCard.lean, 'card_holds'). Laid BY PROGRAM, IN A SANDBOX (cutbox-door.mjs). By AI agents, Wed Nov 11 2026. No macro, syntax, notation, axiom, sorry.
-/
import Derived.Test.YtdhobdmhnocbgaaDoorRows
import GoSem.ClaimSeven
namespace Go.Proofs.YtdhobdmhnocbgaaDoor
namespace Rows

/-- THE TIED CARD OF 'zonelaw.Streams'. -/
def streamsCard : Claim7 := { stood := { row := streamsRow, standIns := [], harness := (true, "32ec19d1c3fa6948091df409b420993870f8ccef792d53b370c17ae4a1d86cf1"), looks := false }, kinds := [], alts := [], laidByText := true, laidKinds := [.data, .data, .data], laidTests := true, laidLooks := .later }
def StreamsCardSaid : Prop := Claim7.holds Tryd.pinned (.plain (OpenSpec.ofChange streamsSpec)) streamsCard

/-- THE SECOND FORM's CARD OF 'zonelaw.Streams'. -/
def streamsUptoCard : Claim7 := { stood := { row := streamsUptoRow, standIns := [], harness := (true, "32ec19d1c3fa6948091df409b420993870f8ccef792d53b370c17ae4a1d86cf1"), looks := false }, kinds := [], alts := [], laidByText := true, laidKinds := [.data, .data, .data], laidTests := true, laidLooks := .later }
def StreamsUptoCardSaid : Prop := Claim7.holds Tryd.pinned (.plain (OpenSpec.upto streamsSpec)) streamsUptoCard
end Rows
end Go.Proofs.YtdhobdmhnocbgaaDoor
