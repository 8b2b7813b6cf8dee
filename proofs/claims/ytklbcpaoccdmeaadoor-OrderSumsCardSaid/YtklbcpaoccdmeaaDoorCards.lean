/-
  DERIVED. GIVEN WITH THE SEED: THE CARDS: each row of YtklbcpaoccdmeaaDoorRows.lean that lists a variable, with what it lists TIED to the program's text (the seventh form; the later family's looks); each row that meets fmt, with fmt's text TOLD by the authors' own Lean function (tested against real Go, not proved from fmt's source: count such statements apart). THE CARD IS WHAT COUNTS. Prove the row's statement (the work); the ties are given (YtklbcpaoccdmeaaDoorTie.lean); close each card by the builder's one call (the guide's Derived/Test/ToyasCard.lean, 'card_holds'). Laid BY PROGRAM, IN A SANDBOX (cutbox-door.mjs). By AI agents, Wed Nov 11 2026. No macro, syntax, notation, axiom, sorry.
-/
import Derived.Test.YtklbcpaoccdmeaaDoorRows
import GoSem.ClaimSeven
namespace Go.Proofs.YtklbcpaoccdmeaaDoor
namespace Rows

/-- THE TIED CARD OF 'dioptrelaw05.OrderReduces'. -/
def orderReducesCard : Claim7 := { stood := { row := orderReducesRow, standIns := [], harness := (true, "11684df3a825f5df74ece75520856a3154a072c865b6c7c006a15a561b233459"), looks := false }, kinds := [], alts := [], laidByText := true, laidKinds := [.wider], laidTests := true, laidLooks := .later }
def OrderReducesCardSaid : Prop := Claim7.holds Tryd.pinned (.plain (OpenSpec.ofChange orderReducesSpec)) orderReducesCard

/-- THE TIED CARD OF 'dioptrelaw05.OrderReckons'. -/
def orderReckonsCard : Claim7 := { stood := { row := orderReckonsRow, standIns := [], harness := (true, "11684df3a825f5df74ece75520856a3154a072c865b6c7c006a15a561b233459"), looks := false }, kinds := [], alts := [], laidByText := true, laidKinds := [.wider], laidTests := true, laidLooks := .later }
def OrderReckonsCardSaid : Prop := Claim7.holds Tryd.pinned (.plain (OpenSpec.ofChange orderReckonsSpec)) orderReckonsCard

/-- THE TIED CARD OF 'dioptrelaw05.OrderNegs'. -/
def orderNegsCard : Claim7 := { stood := { row := orderNegsRow, standIns := [], harness := (true, "11684df3a825f5df74ece75520856a3154a072c865b6c7c006a15a561b233459"), looks := false }, kinds := [], alts := [], laidByText := true, laidKinds := [.wider], laidTests := true, laidLooks := .later }
def OrderNegsCardSaid : Prop := Claim7.holds Tryd.pinned (.plain (OpenSpec.ofChange orderNegsSpec)) orderNegsCard

/-- THE TIED CARD OF 'dioptrelaw05.OrderSums'. -/
def orderSumsCard : Claim7 := { stood := { row := orderSumsRow, standIns := [], harness := (true, "11684df3a825f5df74ece75520856a3154a072c865b6c7c006a15a561b233459"), looks := false }, kinds := [], alts := [], laidByText := true, laidKinds := [.wider], laidTests := true, laidLooks := .later }
def OrderSumsCardSaid : Prop := Claim7.holds Tryd.pinned (.plain (OpenSpec.ofChange orderSumsSpec)) orderSumsCard

/-- THE TIED CARD OF 'dioptrelaw05.OrderRules'. -/
def orderRulesCard : Claim7 := { stood := { row := orderRulesRow, standIns := [], harness := (true, "11684df3a825f5df74ece75520856a3154a072c865b6c7c006a15a561b233459"), looks := false }, kinds := [], alts := [], laidByText := true, laidKinds := [.wider], laidTests := true, laidLooks := .later }
def OrderRulesCardSaid : Prop := Claim7.holds Tryd.pinned (.plain (OpenSpec.ofChange orderRulesSpec)) orderRulesCard

/-- THE SECOND FORM's CARD OF 'dioptrelaw05.OrderReduces'. -/
def orderReducesUptoCard : Claim7 := { stood := { row := orderReducesUptoRow, standIns := [], harness := (true, "11684df3a825f5df74ece75520856a3154a072c865b6c7c006a15a561b233459"), looks := false }, kinds := [], alts := [], laidByText := true, laidKinds := [.wider], laidTests := true, laidLooks := .later }
def OrderReducesUptoCardSaid : Prop := Claim7.holds Tryd.pinned (.plain (OpenSpec.upto orderReducesSpec)) orderReducesUptoCard

/-- THE SECOND FORM's CARD OF 'dioptrelaw05.OrderReckons'. -/
def orderReckonsUptoCard : Claim7 := { stood := { row := orderReckonsUptoRow, standIns := [], harness := (true, "11684df3a825f5df74ece75520856a3154a072c865b6c7c006a15a561b233459"), looks := false }, kinds := [], alts := [], laidByText := true, laidKinds := [.wider], laidTests := true, laidLooks := .later }
def OrderReckonsUptoCardSaid : Prop := Claim7.holds Tryd.pinned (.plain (OpenSpec.upto orderReckonsSpec)) orderReckonsUptoCard

/-- THE SECOND FORM's CARD OF 'dioptrelaw05.OrderNegs'. -/
def orderNegsUptoCard : Claim7 := { stood := { row := orderNegsUptoRow, standIns := [], harness := (true, "11684df3a825f5df74ece75520856a3154a072c865b6c7c006a15a561b233459"), looks := false }, kinds := [], alts := [], laidByText := true, laidKinds := [.wider], laidTests := true, laidLooks := .later }
def OrderNegsUptoCardSaid : Prop := Claim7.holds Tryd.pinned (.plain (OpenSpec.upto orderNegsSpec)) orderNegsUptoCard

/-- THE SECOND FORM's CARD OF 'dioptrelaw05.OrderSums'. -/
def orderSumsUptoCard : Claim7 := { stood := { row := orderSumsUptoRow, standIns := [], harness := (true, "11684df3a825f5df74ece75520856a3154a072c865b6c7c006a15a561b233459"), looks := false }, kinds := [], alts := [], laidByText := true, laidKinds := [.wider], laidTests := true, laidLooks := .later }
def OrderSumsUptoCardSaid : Prop := Claim7.holds Tryd.pinned (.plain (OpenSpec.upto orderSumsSpec)) orderSumsUptoCard

/-- THE SECOND FORM's CARD OF 'dioptrelaw05.OrderRules'. -/
def orderRulesUptoCard : Claim7 := { stood := { row := orderRulesUptoRow, standIns := [], harness := (true, "11684df3a825f5df74ece75520856a3154a072c865b6c7c006a15a561b233459"), looks := false }, kinds := [], alts := [], laidByText := true, laidKinds := [.wider], laidTests := true, laidLooks := .later }
def OrderRulesUptoCardSaid : Prop := Claim7.holds Tryd.pinned (.plain (OpenSpec.upto orderRulesSpec)) orderRulesUptoCard
end Rows
end Go.Proofs.YtklbcpaoccdmeaaDoor
