/-
  DERIVED. GIVEN WITH THE SEED: THE CARDS: each row of YtmfibncllbgeoaaDoorRows.lean that lists a variable, with what it lists TIED to the program's text (the seventh form; the later family's looks); each row that meets fmt, with fmt's text TOLD by the authors' own Lean function (tested against real Go, not proved from fmt's source: count such statements apart). THE CARD IS WHAT COUNTS. Prove the row's statement (the work); the ties are given (YtmfibncllbgeoaaDoorTie.lean); close each card by the builder's one call (the guide's Derived/Test/ToyasCard.lean, 'card_holds'). Laid BY PROGRAM, IN A SANDBOX (cutbox-door.mjs). By AI agents, Wed Nov 11 2026. No macro, syntax, notation, axiom, sorry.
-/
import Derived.Test.YtmfibncllbgeoaaDoorRows
import GoSem.ClaimSeven
namespace Go.Proofs.YtmfibncllbgeoaaDoor
namespace Rows

/-- THE TIED CARD OF 'dioptrelaw07.SignBack'. -/
def signBackCard : Claim7 := { stood := { row := signBackRow, standIns := [], harness := (true, "5c37f92127a094fcea1b1ad6b1e328f14b43f0031be8069e206000ee886b1e7a"), looks := false }, kinds := [], alts := [], laidByText := true, laidKinds := [.data, .data, .data, .data, .data, .wider, .data, .data], laidTests := true, laidLooks := .later }
def SignBackCardSaid : Prop := Claim7.holds Tryd.pinned (.plain (OpenSpec.ofChange signBackSpec)) signBackCard

/-- THE TIED CARD OF 'dioptrelaw07.SignLong'. -/
def signLongCard : Claim7 := { stood := { row := signLongRow, standIns := [], harness := (true, "5c37f92127a094fcea1b1ad6b1e328f14b43f0031be8069e206000ee886b1e7a"), looks := false }, kinds := [], alts := [], laidByText := true, laidKinds := [.data, .data, .data, .data, .data, .wider, .data, .data], laidTests := true, laidLooks := .later }
def SignLongCardSaid : Prop := Claim7.holds Tryd.pinned (.plain (OpenSpec.ofChange signLongSpec)) signLongCard

/-- THE SECOND FORM's CARD OF 'dioptrelaw07.SignBack'. -/
def signBackUptoCard : Claim7 := { stood := { row := signBackUptoRow, standIns := [], harness := (true, "5c37f92127a094fcea1b1ad6b1e328f14b43f0031be8069e206000ee886b1e7a"), looks := false }, kinds := [], alts := [], laidByText := true, laidKinds := [.data, .data, .data, .data, .data, .wider, .data, .data], laidTests := true, laidLooks := .later }
def SignBackUptoCardSaid : Prop := Claim7.holds Tryd.pinned (.plain (OpenSpec.upto signBackSpec)) signBackUptoCard

/-- THE SECOND FORM's CARD OF 'dioptrelaw07.SignLong'. -/
def signLongUptoCard : Claim7 := { stood := { row := signLongUptoRow, standIns := [], harness := (true, "5c37f92127a094fcea1b1ad6b1e328f14b43f0031be8069e206000ee886b1e7a"), looks := false }, kinds := [], alts := [], laidByText := true, laidKinds := [.data, .data, .data, .data, .data, .wider, .data, .data], laidTests := true, laidLooks := .later }
def SignLongUptoCardSaid : Prop := Claim7.holds Tryd.pinned (.plain (OpenSpec.upto signLongSpec)) signLongUptoCard
end Rows
end Go.Proofs.YtmfibncllbgeoaaDoor
