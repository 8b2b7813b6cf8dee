/-
  DERIVED. GIVEN WITH THE SEED: THE CARDS: each row of YtmiadkhfjkaidaaGreatDoorRows.lean that lists a variable, with what it lists TIED to the program's text (the seventh form; the later family's looks); each row that meets fmt, with fmt's text TOLD by the authors' own Lean function (tested against real Go, not proved from fmt's source: count such statements apart). THE CARD IS WHAT COUNTS. Prove the row's statement (the work); the ties are given (YtmiadkhfjkaidaaGreatDoorTie.lean); close each card by the builder's one call (the guide's Derived/Test/ToyasCard.lean, 'card_holds'). Laid BY PROGRAM, IN A SANDBOX (cutbox-door.mjs). By AI agents, Wed Nov 11 2026. No macro, syntax, notation, axiom, sorry.
-/
import Derived.Test.YtmiadkhfjkaidaaGreatDoorRows
import GoSem.ClaimSeven
namespace Go.Proofs.YtmiadkhfjkaidaaGreatDoor
namespace Rows

/-- THE TIED CARD OF 'dioptrelaw12.OpEncodes'. -/
def opEncodesCard : Claim7 := { stood := { row := opEncodesRow, standIns := [], harness := (true, "922d7258d505a70d02d42fc4335fa153d68c5537e50d17ee0a1a18a7f246ee27"), looks := true }, kinds := [], alts := [], laidByText := true, laidKinds := [.handle], laidTests := true, laidLooks := .later }
def OpEncodesCardSaid : Prop := Claim7.holds Tryz.pinned (.plain (OpenSpec.ofChange opEncodesSpec)) opEncodesCard

/-- THE SECOND FORM's CARD OF 'dioptrelaw12.OpEncodes'. -/
def opEncodesUptoCard : Claim7 := { stood := { row := opEncodesUptoRow, standIns := [], harness := (true, "922d7258d505a70d02d42fc4335fa153d68c5537e50d17ee0a1a18a7f246ee27"), looks := true }, kinds := [], alts := [], laidByText := true, laidKinds := [.handle], laidTests := true, laidLooks := .later }
def OpEncodesUptoCardSaid : Prop := Claim7.holds Tryz.pinned (.plain (OpenSpec.upto opEncodesSpec)) opEncodesUptoCard
end Rows
end Go.Proofs.YtmiadkhfjkaidaaGreatDoor
