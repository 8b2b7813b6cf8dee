/-
  DERIVED. GIVEN WITH THE SEED: THE CARDS: each row of YtkjhmplnamaoaaaGreatDoorRows.lean that lists a variable, with what it lists TIED to the program's text (the seventh form; the later family's looks); each row that meets fmt, with fmt's text TOLD by the authors' own Lean function (tested against real Go, not proved from fmt's source: count such statements apart). THE CARD IS WHAT COUNTS. Prove the row's statement (the work); the ties are given (YtkjhmplnamaoaaaGreatDoorTie.lean); close each card by the builder's one call (the guide's Derived/Test/ToyasCard.lean, 'card_holds'). Laid BY PROGRAM, IN A SANDBOX (cutbox-door.mjs). By AI agents, Wed Nov 11 2026. No macro, syntax, notation, axiom, sorry.
-/
import Derived.Test.YtkjhmplnamaoaaaGreatDoorRows
import GoSem.ClaimSeven
namespace Go.Proofs.YtkjhmplnamaoaaaGreatDoor
namespace Rows

/-- THE TIED CARD OF 'dioptrelaw08.ValueEncodes'. -/
def valueEncodesCard : Claim7 := { stood := { row := valueEncodesRow, standIns := [], harness := (true, "b2c74f1cd7ae9c828d9e5c8a97fc2deb0c3b9cb751f6a96efb6757abb682ecb8"), looks := true }, kinds := [], alts := [], laidByText := true, laidKinds := [.handle], laidTests := true, laidLooks := .later }
def ValueEncodesCardSaid : Prop := Claim7.holds Tryz.pinned (.plain (OpenSpec.ofChange valueEncodesSpec)) valueEncodesCard

/-- THE SECOND FORM's CARD OF 'dioptrelaw08.ValueEncodes'. -/
def valueEncodesUptoCard : Claim7 := { stood := { row := valueEncodesUptoRow, standIns := [], harness := (true, "b2c74f1cd7ae9c828d9e5c8a97fc2deb0c3b9cb751f6a96efb6757abb682ecb8"), looks := true }, kinds := [], alts := [], laidByText := true, laidKinds := [.handle], laidTests := true, laidLooks := .later }
def ValueEncodesUptoCardSaid : Prop := Claim7.holds Tryz.pinned (.plain (OpenSpec.upto valueEncodesSpec)) valueEncodesUptoCard
end Rows
end Go.Proofs.YtkjhmplnamaoaaaGreatDoor
