/-
  DERIVED. GIVEN WITH THE SEED: THE CARDS: each row of YtnpjecdodhkplaaGreatDoorRows.lean that lists a variable, with what it lists TIED to the program's text (the seventh form; the later family's looks); each row that meets fmt, with fmt's text TOLD by the authors' own Lean function (tested against real Go, not proved from fmt's source: count such statements apart). THE CARD IS WHAT COUNTS. Prove the row's statement (the work); the ties are given (YtnpjecdodhkplaaGreatDoorTie.lean); close each card by the builder's one call (the guide's Derived/Test/ToyasCard.lean, 'card_holds'). Laid BY PROGRAM, IN A SANDBOX (cutbox-door.mjs). By AI agents, Wed Nov 11 2026. No macro, syntax, notation, axiom, sorry.
-/
import Derived.Test.YtnpjecdodhkplaaGreatDoorRows
import GoSem.ClaimSeven
namespace Go.Proofs.YtnpjecdodhkplaaGreatDoor
namespace Rows

/-- THE TIED CARD OF 'dioptrelaw07.SignSigns'. -/
def signSignsCard : Claim7 := { stood := { row := signSignsRow, standIns := [], harness := (true, "71a78a660f7442836c210fabd23a1281d5afd749a7c751dd8766902bbb02da36"), looks := false }, kinds := [], alts := [], laidByText := true, laidKinds := [.data, .data, .data, .data, .data, .wider, .data, .data], laidTests := true, laidLooks := .later }
def SignSignsCardSaid : Prop := Claim7.holds Tryz.pinned (.plain (OpenSpec.ofChange signSignsSpec)) signSignsCard

/-- THE TIED CARD OF 'dioptrelaw07.SignVerifies'. -/
def signVerifiesCard : Claim7 := { stood := { row := signVerifiesRow, standIns := [], harness := (true, "71a78a660f7442836c210fabd23a1281d5afd749a7c751dd8766902bbb02da36"), looks := false }, kinds := [], alts := [], laidByText := true, laidKinds := [.data, .data, .data, .data, .data, .wider, .data, .data], laidTests := true, laidLooks := .later }
def SignVerifiesCardSaid : Prop := Claim7.holds Tryz.pinned (.plain (OpenSpec.ofChange signVerifiesSpec)) signVerifiesCard

/-- THE TIED CARD OF 'dioptrelaw07.SignTurned'. -/
def signTurnedCard : Claim7 := { stood := { row := signTurnedRow, standIns := [], harness := (true, "71a78a660f7442836c210fabd23a1281d5afd749a7c751dd8766902bbb02da36"), looks := false }, kinds := [], alts := [], laidByText := true, laidKinds := [.data, .data, .data, .data, .data, .wider, .data, .data], laidTests := true, laidLooks := .later }
def SignTurnedCardSaid : Prop := Claim7.holds Tryz.pinned (.plain (OpenSpec.ofChange signTurnedSpec)) signTurnedCard

/-- THE SECOND FORM's CARD OF 'dioptrelaw07.SignSigns'. -/
def signSignsUptoCard : Claim7 := { stood := { row := signSignsUptoRow, standIns := [], harness := (true, "71a78a660f7442836c210fabd23a1281d5afd749a7c751dd8766902bbb02da36"), looks := false }, kinds := [], alts := [], laidByText := true, laidKinds := [.data, .data, .data, .data, .data, .wider, .data, .data], laidTests := true, laidLooks := .later }
def SignSignsUptoCardSaid : Prop := Claim7.holds Tryz.pinned (.plain (OpenSpec.upto signSignsSpec)) signSignsUptoCard

/-- THE SECOND FORM's CARD OF 'dioptrelaw07.SignVerifies'. -/
def signVerifiesUptoCard : Claim7 := { stood := { row := signVerifiesUptoRow, standIns := [], harness := (true, "71a78a660f7442836c210fabd23a1281d5afd749a7c751dd8766902bbb02da36"), looks := false }, kinds := [], alts := [], laidByText := true, laidKinds := [.data, .data, .data, .data, .data, .wider, .data, .data], laidTests := true, laidLooks := .later }
def SignVerifiesUptoCardSaid : Prop := Claim7.holds Tryz.pinned (.plain (OpenSpec.upto signVerifiesSpec)) signVerifiesUptoCard

/-- THE SECOND FORM's CARD OF 'dioptrelaw07.SignTurned'. -/
def signTurnedUptoCard : Claim7 := { stood := { row := signTurnedUptoRow, standIns := [], harness := (true, "71a78a660f7442836c210fabd23a1281d5afd749a7c751dd8766902bbb02da36"), looks := false }, kinds := [], alts := [], laidByText := true, laidKinds := [.data, .data, .data, .data, .data, .wider, .data, .data], laidTests := true, laidLooks := .later }
def SignTurnedUptoCardSaid : Prop := Claim7.holds Tryz.pinned (.plain (OpenSpec.upto signTurnedSpec)) signTurnedUptoCard
end Rows
end Go.Proofs.YtnpjecdodhkplaaGreatDoor
