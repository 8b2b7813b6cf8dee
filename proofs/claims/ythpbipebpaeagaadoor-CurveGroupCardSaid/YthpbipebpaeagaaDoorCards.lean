/-
  DERIVED. GIVEN WITH THE SEED: THE CARDS: each row of YthpbipebpaeagaaDoorRows.lean that lists a variable, with what it lists TIED to the program's text (the seventh form; the later family's looks); each row that meets fmt, with fmt's text TOLD by the authors' own Lean function (tested against real Go, not proved from fmt's source: count such statements apart). THE CARD IS WHAT COUNTS. Prove the row's statement (the work); the ties are given (YthpbipebpaeagaaDoorTie.lean); close each card by the builder's one call (the guide's Derived/Test/ToyasCard.lean, 'card_holds'). Laid BY PROGRAM, IN A SANDBOX (cutbox-door.mjs). By AI agents, Wed Nov 11 2026. No macro, syntax, notation, axiom, sorry.
-/
import Derived.Test.YthpbipebpaeagaaDoorRows
import GoSem.ClaimSeven
namespace Go.Proofs.YthpbipebpaeagaaDoor
namespace Rows

/-- THE TIED CARD OF 'dioptrelaw04.FieldReads'. -/
def fieldReadsCard : Claim7 := { stood := { row := fieldReadsRow, standIns := [], harness := (true, "f365b8537881def248015c6089676f9a03f6bdad2ab965cfb31970f6e7b66d57"), looks := false }, kinds := [], alts := [], laidByText := true, laidKinds := [.data, .data], laidTests := true, laidLooks := .later }
def FieldReadsCardSaid : Prop := Claim7.holds Tryd.pinned (.plain (OpenSpec.ofChange fieldReadsSpec)) fieldReadsCard

/-- THE TIED CARD OF 'dioptrelaw04.FieldReckons'. -/
def fieldReckonsCard : Claim7 := { stood := { row := fieldReckonsRow, standIns := [], harness := (true, "f365b8537881def248015c6089676f9a03f6bdad2ab965cfb31970f6e7b66d57"), looks := false }, kinds := [], alts := [], laidByText := true, laidKinds := [.data, .data], laidTests := true, laidLooks := .later }
def FieldReckonsCardSaid : Prop := Claim7.holds Tryd.pinned (.plain (OpenSpec.ofChange fieldReckonsSpec)) fieldReckonsCard

/-- THE TIED CARD OF 'dioptrelaw04.FieldChains'. -/
def fieldChainsCard : Claim7 := { stood := { row := fieldChainsRow, standIns := [], harness := (true, "f365b8537881def248015c6089676f9a03f6bdad2ab965cfb31970f6e7b66d57"), looks := false }, kinds := [], alts := [], laidByText := true, laidKinds := [.data, .data], laidTests := true, laidLooks := .later }
def FieldChainsCardSaid : Prop := Claim7.holds Tryd.pinned (.plain (OpenSpec.ofChange fieldChainsSpec)) fieldChainsCard

/-- THE TIED CARD OF 'dioptrelaw04.FieldPowers'. -/
def fieldPowersCard : Claim7 := { stood := { row := fieldPowersRow, standIns := [], harness := (true, "f365b8537881def248015c6089676f9a03f6bdad2ab965cfb31970f6e7b66d57"), looks := false }, kinds := [], alts := [], laidByText := true, laidKinds := [.data, .data], laidTests := true, laidLooks := .later }
def FieldPowersCardSaid : Prop := Claim7.holds Tryd.pinned (.plain (OpenSpec.ofChange fieldPowersSpec)) fieldPowersCard

/-- THE TIED CARD OF 'dioptrelaw04.FieldRoots'. -/
def fieldRootsCard : Claim7 := { stood := { row := fieldRootsRow, standIns := [], harness := (true, "f365b8537881def248015c6089676f9a03f6bdad2ab965cfb31970f6e7b66d57"), looks := false }, kinds := [], alts := [], laidByText := true, laidKinds := [.data, .data], laidTests := true, laidLooks := .later }
def FieldRootsCardSaid : Prop := Claim7.holds Tryd.pinned (.plain (OpenSpec.ofChange fieldRootsSpec)) fieldRootsCard

/-- THE TIED CARD OF 'dioptrelaw04.FieldRules'. -/
def fieldRulesCard : Claim7 := { stood := { row := fieldRulesRow, standIns := [], harness := (true, "f365b8537881def248015c6089676f9a03f6bdad2ab965cfb31970f6e7b66d57"), looks := false }, kinds := [], alts := [], laidByText := true, laidKinds := [.data, .data], laidTests := true, laidLooks := .later }
def FieldRulesCardSaid : Prop := Claim7.holds Tryd.pinned (.plain (OpenSpec.ofChange fieldRulesSpec)) fieldRulesCard

/-- THE TIED CARD OF 'dioptrelaw06.CurveDecodes'. -/
def curveDecodesCard : Claim7 := { stood := { row := curveDecodesRow, standIns := [], harness := (true, "f365b8537881def248015c6089676f9a03f6bdad2ab965cfb31970f6e7b66d57"), looks := false }, kinds := [], alts := [], laidByText := true, laidKinds := [.data, .data, .data, .data, .data], laidTests := true, laidLooks := .later }
def CurveDecodesCardSaid : Prop := Claim7.holds Tryd.pinned (.plain (OpenSpec.ofChange curveDecodesSpec)) curveDecodesCard

/-- THE TIED CARD OF 'dioptrelaw06.CurveMuls'. -/
def curveMulsCard : Claim7 := { stood := { row := curveMulsRow, standIns := [], harness := (true, "f365b8537881def248015c6089676f9a03f6bdad2ab965cfb31970f6e7b66d57"), looks := false }, kinds := [], alts := [], laidByText := true, laidKinds := [.data, .data, .data, .data, .data], laidTests := true, laidLooks := .later }
def CurveMulsCardSaid : Prop := Claim7.holds Tryd.pinned (.plain (OpenSpec.ofChange curveMulsSpec)) curveMulsCard

/-- THE TIED CARD OF 'dioptrelaw06.CurveAdds'. -/
def curveAddsCard : Claim7 := { stood := { row := curveAddsRow, standIns := [], harness := (true, "f365b8537881def248015c6089676f9a03f6bdad2ab965cfb31970f6e7b66d57"), looks := false }, kinds := [], alts := [], laidByText := true, laidKinds := [.data, .data, .data, .data, .data], laidTests := true, laidLooks := .later }
def CurveAddsCardSaid : Prop := Claim7.holds Tryd.pinned (.plain (OpenSpec.ofChange curveAddsSpec)) curveAddsCard

/-- THE TIED CARD OF 'dioptrelaw06.CurveBoths'. -/
def curveBothsCard : Claim7 := { stood := { row := curveBothsRow, standIns := [], harness := (true, "f365b8537881def248015c6089676f9a03f6bdad2ab965cfb31970f6e7b66d57"), looks := false }, kinds := [], alts := [], laidByText := true, laidKinds := [.data, .data, .data, .data, .data], laidTests := true, laidLooks := .later }
def CurveBothsCardSaid : Prop := Claim7.holds Tryd.pinned (.plain (OpenSpec.ofChange curveBothsSpec)) curveBothsCard

/-- THE TIED CARD OF 'dioptrelaw06.CurveGroup'. -/
def curveGroupCard : Claim7 := { stood := { row := curveGroupRow, standIns := [], harness := (true, "f365b8537881def248015c6089676f9a03f6bdad2ab965cfb31970f6e7b66d57"), looks := false }, kinds := [], alts := [], laidByText := true, laidKinds := [.data, .data, .data, .data], laidTests := true, laidLooks := .later }
def CurveGroupCardSaid : Prop := Claim7.holds Tryd.pinned (.plain (OpenSpec.ofChange curveGroupSpec)) curveGroupCard

/-- THE SECOND FORM's CARD OF 'dioptrelaw04.FieldReads'. -/
def fieldReadsUptoCard : Claim7 := { stood := { row := fieldReadsUptoRow, standIns := [], harness := (true, "f365b8537881def248015c6089676f9a03f6bdad2ab965cfb31970f6e7b66d57"), looks := false }, kinds := [], alts := [], laidByText := true, laidKinds := [.data, .data], laidTests := true, laidLooks := .later }
def FieldReadsUptoCardSaid : Prop := Claim7.holds Tryd.pinned (.plain (OpenSpec.upto fieldReadsSpec)) fieldReadsUptoCard

/-- THE SECOND FORM's CARD OF 'dioptrelaw04.FieldReckons'. -/
def fieldReckonsUptoCard : Claim7 := { stood := { row := fieldReckonsUptoRow, standIns := [], harness := (true, "f365b8537881def248015c6089676f9a03f6bdad2ab965cfb31970f6e7b66d57"), looks := false }, kinds := [], alts := [], laidByText := true, laidKinds := [.data, .data], laidTests := true, laidLooks := .later }
def FieldReckonsUptoCardSaid : Prop := Claim7.holds Tryd.pinned (.plain (OpenSpec.upto fieldReckonsSpec)) fieldReckonsUptoCard

/-- THE SECOND FORM's CARD OF 'dioptrelaw04.FieldChains'. -/
def fieldChainsUptoCard : Claim7 := { stood := { row := fieldChainsUptoRow, standIns := [], harness := (true, "f365b8537881def248015c6089676f9a03f6bdad2ab965cfb31970f6e7b66d57"), looks := false }, kinds := [], alts := [], laidByText := true, laidKinds := [.data, .data], laidTests := true, laidLooks := .later }
def FieldChainsUptoCardSaid : Prop := Claim7.holds Tryd.pinned (.plain (OpenSpec.upto fieldChainsSpec)) fieldChainsUptoCard

/-- THE SECOND FORM's CARD OF 'dioptrelaw04.FieldPowers'. -/
def fieldPowersUptoCard : Claim7 := { stood := { row := fieldPowersUptoRow, standIns := [], harness := (true, "f365b8537881def248015c6089676f9a03f6bdad2ab965cfb31970f6e7b66d57"), looks := false }, kinds := [], alts := [], laidByText := true, laidKinds := [.data, .data], laidTests := true, laidLooks := .later }
def FieldPowersUptoCardSaid : Prop := Claim7.holds Tryd.pinned (.plain (OpenSpec.upto fieldPowersSpec)) fieldPowersUptoCard

/-- THE SECOND FORM's CARD OF 'dioptrelaw04.FieldRoots'. -/
def fieldRootsUptoCard : Claim7 := { stood := { row := fieldRootsUptoRow, standIns := [], harness := (true, "f365b8537881def248015c6089676f9a03f6bdad2ab965cfb31970f6e7b66d57"), looks := false }, kinds := [], alts := [], laidByText := true, laidKinds := [.data, .data], laidTests := true, laidLooks := .later }
def FieldRootsUptoCardSaid : Prop := Claim7.holds Tryd.pinned (.plain (OpenSpec.upto fieldRootsSpec)) fieldRootsUptoCard

/-- THE SECOND FORM's CARD OF 'dioptrelaw04.FieldRules'. -/
def fieldRulesUptoCard : Claim7 := { stood := { row := fieldRulesUptoRow, standIns := [], harness := (true, "f365b8537881def248015c6089676f9a03f6bdad2ab965cfb31970f6e7b66d57"), looks := false }, kinds := [], alts := [], laidByText := true, laidKinds := [.data, .data], laidTests := true, laidLooks := .later }
def FieldRulesUptoCardSaid : Prop := Claim7.holds Tryd.pinned (.plain (OpenSpec.upto fieldRulesSpec)) fieldRulesUptoCard

/-- THE SECOND FORM's CARD OF 'dioptrelaw06.CurveDecodes'. -/
def curveDecodesUptoCard : Claim7 := { stood := { row := curveDecodesUptoRow, standIns := [], harness := (true, "f365b8537881def248015c6089676f9a03f6bdad2ab965cfb31970f6e7b66d57"), looks := false }, kinds := [], alts := [], laidByText := true, laidKinds := [.data, .data, .data, .data, .data], laidTests := true, laidLooks := .later }
def CurveDecodesUptoCardSaid : Prop := Claim7.holds Tryd.pinned (.plain (OpenSpec.upto curveDecodesSpec)) curveDecodesUptoCard

/-- THE SECOND FORM's CARD OF 'dioptrelaw06.CurveMuls'. -/
def curveMulsUptoCard : Claim7 := { stood := { row := curveMulsUptoRow, standIns := [], harness := (true, "f365b8537881def248015c6089676f9a03f6bdad2ab965cfb31970f6e7b66d57"), looks := false }, kinds := [], alts := [], laidByText := true, laidKinds := [.data, .data, .data, .data, .data], laidTests := true, laidLooks := .later }
def CurveMulsUptoCardSaid : Prop := Claim7.holds Tryd.pinned (.plain (OpenSpec.upto curveMulsSpec)) curveMulsUptoCard

/-- THE SECOND FORM's CARD OF 'dioptrelaw06.CurveAdds'. -/
def curveAddsUptoCard : Claim7 := { stood := { row := curveAddsUptoRow, standIns := [], harness := (true, "f365b8537881def248015c6089676f9a03f6bdad2ab965cfb31970f6e7b66d57"), looks := false }, kinds := [], alts := [], laidByText := true, laidKinds := [.data, .data, .data, .data, .data], laidTests := true, laidLooks := .later }
def CurveAddsUptoCardSaid : Prop := Claim7.holds Tryd.pinned (.plain (OpenSpec.upto curveAddsSpec)) curveAddsUptoCard

/-- THE SECOND FORM's CARD OF 'dioptrelaw06.CurveBoths'. -/
def curveBothsUptoCard : Claim7 := { stood := { row := curveBothsUptoRow, standIns := [], harness := (true, "f365b8537881def248015c6089676f9a03f6bdad2ab965cfb31970f6e7b66d57"), looks := false }, kinds := [], alts := [], laidByText := true, laidKinds := [.data, .data, .data, .data, .data], laidTests := true, laidLooks := .later }
def CurveBothsUptoCardSaid : Prop := Claim7.holds Tryd.pinned (.plain (OpenSpec.upto curveBothsSpec)) curveBothsUptoCard

/-- THE SECOND FORM's CARD OF 'dioptrelaw06.CurveGroup'. -/
def curveGroupUptoCard : Claim7 := { stood := { row := curveGroupUptoRow, standIns := [], harness := (true, "f365b8537881def248015c6089676f9a03f6bdad2ab965cfb31970f6e7b66d57"), looks := false }, kinds := [], alts := [], laidByText := true, laidKinds := [.data, .data, .data, .data], laidTests := true, laidLooks := .later }
def CurveGroupUptoCardSaid : Prop := Claim7.holds Tryd.pinned (.plain (OpenSpec.upto curveGroupSpec)) curveGroupUptoCard
end Rows
end Go.Proofs.YthpbipebpaeagaaDoor
