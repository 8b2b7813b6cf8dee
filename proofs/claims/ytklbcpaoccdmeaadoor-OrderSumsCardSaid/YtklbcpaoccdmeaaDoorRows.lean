/-
  NARROWER THAN 'FOR EVERY INPUT', by the rows' own cells (each row's printed sentence says how): OrderReduces: laid · OrderReckons: laid · OrderNegs: laid · OrderSums: laid · OrderRules: laid.
  DERIVED. THE GIVEN ROWS OF THIS SEAT. 5 by the template 'for every input the law returns true; each argument reads behind the call as it read before'; 0 by the template 'total and deterministic' (their statements: YtklbcpaoccdmeaaDoorTotals.lean).
  GIVEN WITH THE SEED: the statements are not yours to turn. If you find one false, say at which input.
  Laid BY PROGRAM, IN A SANDBOX (cutbox-rows.mjs): the forced cells as the released guide's own fill.sh prints them over the translation 1e00320cfbabdfbf… (all of the seat's roots in one cut). By AI agents, Wed Nov 11 2026. No macro, syntax, notation, axiom, sorry.
-/
import Derived.Test.YtklbcpaoccdmeaaDoorChecked
import GoSem.Claim
import GoSem.ClaimJoined
import GoSem.ClaimMapViews
import Derived.JoinedTies
import Derived.KernelRfl
namespace Go.Proofs.YtklbcpaoccdmeaaDoor
/- THE CELL 'sum', in the pinned program and in every row, IS THE sha256 OF THE DUMP (.gsa) THAT YtklbcpaoccdmeaaDoorProg.lean LOADS. Nothing in Lean hashes anything: it is a label: what it is worth is what the hold of that sum in a sandbox is worth. -/
noncomputable def Tryd.pinned : Pinned := { name := "ytklbcpaoccdmeaadoor", sum := "1e00320cfbabdfbf5b7784f82f2fdebc671c6266a5225d8e2152fd5232da9997", checked := Tryd.checked }
namespace Rows
def none {H : Type} : Left H := { results := [], args := [] }

/- WHAT THE LISTED PACKAGE-LEVEL VARIABLES READ AS WHEN THE CALL BEGINS. Each datum BY PROGRAM (the guide's laid-datum.mjs) off the statement by which the dump's own 'gosem.cut.vars' lays the variable. In a bare row this is a premise. The card (YtklbcpaoccdmeaaDoorCards.lean) ties it to the program's text. -/
def laid_dioptre_order_q {H : Type} : DataW H := .agg [.lit (.int .u64 6346243789798364141), .lit (.int .u64 1503914060200516822), .lit (.int .u64 0), .lit (.int .u64 1152921504606846976), .lit (.int .u64 0), .lit (.int .u64 0), .lit (.int .u64 0), .lit (.int .u64 0)]

/-- 'dioptrelaw05.OrderReduces': WHATEVER THE INPUT: true; the input reads as it did. -/
def orderReducesSpec : ChangeSpec := { name := "orderReduces", fn := fun _ => fun
  | [d1, d2] => { results := [.lit (.bool true)], args := [d1, d2] }
  | _ => none }
def orderReducesRow : OpenClaim := { program := "ytklbcpaoccdmeaadoor", sum := "1e00320cfbabdfbf5b7784f82f2fdebc671c6266a5225d8e2152fd5232da9997", func := "dioptre/dioptrelaw05.OrderReduces", spec := "orderReduces", inPlace := ["math/bits.Add64", "math/bits.Sub64"], named := ["dioptre/order.q"], apart := false, laid := [("dioptre/order.q", laid_dioptre_order_q)] }
def OrderReducesSaid : Prop := orderReducesRow.holds Tryd.pinned (OpenSpec.ofChange orderReducesSpec)

/-- ITS FALSE NEIGHBOUR: 'it returns false'. Refute it at one input. -/
def orderReducesWrong : ChangeSpec := { name := "orderReduces", fn := fun _ => fun
  | [d1, d2] => { results := [.lit (.bool false)], args := [d1, d2] }
  | _ => none }
def OrderReducesWrongFalsely : Prop := orderReducesRow.holds Tryd.pinned (OpenSpec.ofChange orderReducesWrong)

/-- 'dioptrelaw05.OrderReckons': WHATEVER THE INPUT: true; the input reads as it did. -/
def orderReckonsSpec : ChangeSpec := { name := "orderReckons", fn := fun _ => fun
  | [d1, d2, d3] => { results := [.lit (.bool true)], args := [d1, d2, d3] }
  | _ => none }
def orderReckonsRow : OpenClaim := { program := "ytklbcpaoccdmeaadoor", sum := "1e00320cfbabdfbf5b7784f82f2fdebc671c6266a5225d8e2152fd5232da9997", func := "dioptre/dioptrelaw05.OrderReckons", spec := "orderReckons", inPlace := ["math/bits.Add64", "math/bits.Sub64"], named := ["dioptre/order.q"], apart := false, laid := [("dioptre/order.q", laid_dioptre_order_q)] }
def OrderReckonsSaid : Prop := orderReckonsRow.holds Tryd.pinned (OpenSpec.ofChange orderReckonsSpec)

/-- ITS FALSE NEIGHBOUR: 'it returns false'. Refute it at one input. -/
def orderReckonsWrong : ChangeSpec := { name := "orderReckons", fn := fun _ => fun
  | [d1, d2, d3] => { results := [.lit (.bool false)], args := [d1, d2, d3] }
  | _ => none }
def OrderReckonsWrongFalsely : Prop := orderReckonsRow.holds Tryd.pinned (OpenSpec.ofChange orderReckonsWrong)

/-- 'dioptrelaw05.OrderNegs': WHATEVER THE INPUT: true; the input reads as it did. -/
def orderNegsSpec : ChangeSpec := { name := "orderNegs", fn := fun _ => fun
  | [d] => { results := [.lit (.bool true)], args := [d] }
  | _ => none }
def orderNegsRow : OpenClaim := { program := "ytklbcpaoccdmeaadoor", sum := "1e00320cfbabdfbf5b7784f82f2fdebc671c6266a5225d8e2152fd5232da9997", func := "dioptre/dioptrelaw05.OrderNegs", spec := "orderNegs", inPlace := ["math/bits.Add64", "math/bits.Sub64"], named := ["dioptre/order.q"], apart := false, laid := [("dioptre/order.q", laid_dioptre_order_q)] }
def OrderNegsSaid : Prop := orderNegsRow.holds Tryd.pinned (OpenSpec.ofChange orderNegsSpec)

/-- ITS FALSE NEIGHBOUR: 'it returns false'. Refute it at one input. -/
def orderNegsWrong : ChangeSpec := { name := "orderNegs", fn := fun _ => fun
  | [d] => { results := [.lit (.bool false)], args := [d] }
  | _ => none }
def OrderNegsWrongFalsely : Prop := orderNegsRow.holds Tryd.pinned (OpenSpec.ofChange orderNegsWrong)

/-- 'dioptrelaw05.OrderSums': WHATEVER THE INPUT: true; the input reads as it did. -/
def orderSumsSpec : ChangeSpec := { name := "orderSums", fn := fun _ => fun
  | [d] => { results := [.lit (.bool true)], args := [d] }
  | _ => none }
def orderSumsRow : OpenClaim := { program := "ytklbcpaoccdmeaadoor", sum := "1e00320cfbabdfbf5b7784f82f2fdebc671c6266a5225d8e2152fd5232da9997", func := "dioptre/dioptrelaw05.OrderSums", spec := "orderSums", inPlace := ["math/bits.Add64", "math/bits.Sub64"], named := ["dioptre/order.q"], apart := false, laid := [("dioptre/order.q", laid_dioptre_order_q)] }
def OrderSumsSaid : Prop := orderSumsRow.holds Tryd.pinned (OpenSpec.ofChange orderSumsSpec)

/-- ITS FALSE NEIGHBOUR: 'it returns false'. Refute it at one input. -/
def orderSumsWrong : ChangeSpec := { name := "orderSums", fn := fun _ => fun
  | [d] => { results := [.lit (.bool false)], args := [d] }
  | _ => none }
def OrderSumsWrongFalsely : Prop := orderSumsRow.holds Tryd.pinned (OpenSpec.ofChange orderSumsWrong)

/-- 'dioptrelaw05.OrderRules': WHATEVER THE INPUT: true; the input reads as it did. -/
def orderRulesSpec : ChangeSpec := { name := "orderRules", fn := fun _ => fun
  | [d1, d2, d3] => { results := [.lit (.bool true)], args := [d1, d2, d3] }
  | _ => none }
def orderRulesRow : OpenClaim := { program := "ytklbcpaoccdmeaadoor", sum := "1e00320cfbabdfbf5b7784f82f2fdebc671c6266a5225d8e2152fd5232da9997", func := "dioptre/dioptrelaw05.OrderRules", spec := "orderRules", inPlace := ["math/bits.Add64", "math/bits.Sub64"], named := ["dioptre/order.q"], apart := false, laid := [("dioptre/order.q", laid_dioptre_order_q)] }
def OrderRulesSaid : Prop := orderRulesRow.holds Tryd.pinned (OpenSpec.ofChange orderRulesSpec)

/-- ITS FALSE NEIGHBOUR: 'it returns false'. Refute it at one input. -/
def orderRulesWrong : ChangeSpec := { name := "orderRules", fn := fun _ => fun
  | [d1, d2, d3] => { results := [.lit (.bool false)], args := [d1, d2, d3] }
  | _ => none }
def OrderRulesWrongFalsely : Prop := orderRulesRow.holds Tryd.pinned (OpenSpec.ofChange orderRulesWrong)

/- THE SECOND FORM. 'bulk': how many values and letters a reading holds, each counted each time it is reached (what is shared counts as often as it is met; a slice's spare places count too). A statement '..UptoSaid' is the law's where the arguments, and the package variables that the reading takes, are together of bulk at most 1048576: NARROWER than '..Said'. Prove '..Said' where nothing that the law and all that it calls make is longer than what came in: it says more and counts as full. Else prove '..UptoSaid'. A law counts once. -/
mutual
def uptoBulk {H : Type} : DataW H → Nat
  | .lit (.string bytes) => bytes.length + 1
  | .lit _ => 1
  | .nil => 1
  | .ptr d => uptoBulk d + 1
  | .slice elems spare => uptoBulkAll elems + uptoBulkAll spare + 1
  | .agg parts => uptoBulkAll parts + 1
  | .iface _ d => uptoBulk d + 1
  | .map entries => uptoBulkEntries entries + 1
  | .held _ => 1
def uptoBulkAll {H : Type} : List (DataW H) → Nat
  | [] => 0
  | d :: r => uptoBulk d + uptoBulkAll r
def uptoBulkEntries {H : Type} : List (Lit × DataW H) → Nat
  | [] => 0
  | x :: r => uptoBulkEntry x + uptoBulkEntries r
def uptoBulkEntry {H : Type} : Lit × DataW H → Nat
  | (.string bytes, d) => bytes.length + uptoBulk d + 1
  | (_, d) => uptoBulk d + 1
 end
def uptoSmall : (H : Type) → List (DataW H) → Bool := fun _ ds => decide (uptoBulkAll ds ≤ 1048576)
def OpenSpec.upto (s : _root_.Go.ChangeSpec) : _root_.Go.OpenSpec := { _root_.Go.OpenSpec.ofChange s with cond := some uptoSmall }

/-- 'dioptrelaw05.OrderReduces', WHERE WHAT IT READS IS OF BULK AT MOST 1048576: true; the input reads as it did. -/
def orderReducesUptoRow : OpenClaim := { program := "ytklbcpaoccdmeaadoor", sum := "1e00320cfbabdfbf5b7784f82f2fdebc671c6266a5225d8e2152fd5232da9997", func := "dioptre/dioptrelaw05.OrderReduces", spec := "orderReduces", inPlace := ["math/bits.Add64", "math/bits.Sub64"], named := ["dioptre/order.q"], apart := false, laid := [("dioptre/order.q", laid_dioptre_order_q)], narrowed := true }
def OrderReducesUptoSaid : Prop := orderReducesUptoRow.holds Tryd.pinned (OpenSpec.upto orderReducesSpec)

/-- 'dioptrelaw05.OrderReckons', WHERE WHAT IT READS IS OF BULK AT MOST 1048576: true; the input reads as it did. -/
def orderReckonsUptoRow : OpenClaim := { program := "ytklbcpaoccdmeaadoor", sum := "1e00320cfbabdfbf5b7784f82f2fdebc671c6266a5225d8e2152fd5232da9997", func := "dioptre/dioptrelaw05.OrderReckons", spec := "orderReckons", inPlace := ["math/bits.Add64", "math/bits.Sub64"], named := ["dioptre/order.q"], apart := false, laid := [("dioptre/order.q", laid_dioptre_order_q)], narrowed := true }
def OrderReckonsUptoSaid : Prop := orderReckonsUptoRow.holds Tryd.pinned (OpenSpec.upto orderReckonsSpec)

/-- 'dioptrelaw05.OrderNegs', WHERE WHAT IT READS IS OF BULK AT MOST 1048576: true; the input reads as it did. -/
def orderNegsUptoRow : OpenClaim := { program := "ytklbcpaoccdmeaadoor", sum := "1e00320cfbabdfbf5b7784f82f2fdebc671c6266a5225d8e2152fd5232da9997", func := "dioptre/dioptrelaw05.OrderNegs", spec := "orderNegs", inPlace := ["math/bits.Add64", "math/bits.Sub64"], named := ["dioptre/order.q"], apart := false, laid := [("dioptre/order.q", laid_dioptre_order_q)], narrowed := true }
def OrderNegsUptoSaid : Prop := orderNegsUptoRow.holds Tryd.pinned (OpenSpec.upto orderNegsSpec)

/-- 'dioptrelaw05.OrderSums', WHERE WHAT IT READS IS OF BULK AT MOST 1048576: true; the input reads as it did. -/
def orderSumsUptoRow : OpenClaim := { program := "ytklbcpaoccdmeaadoor", sum := "1e00320cfbabdfbf5b7784f82f2fdebc671c6266a5225d8e2152fd5232da9997", func := "dioptre/dioptrelaw05.OrderSums", spec := "orderSums", inPlace := ["math/bits.Add64", "math/bits.Sub64"], named := ["dioptre/order.q"], apart := false, laid := [("dioptre/order.q", laid_dioptre_order_q)], narrowed := true }
def OrderSumsUptoSaid : Prop := orderSumsUptoRow.holds Tryd.pinned (OpenSpec.upto orderSumsSpec)

/-- 'dioptrelaw05.OrderRules', WHERE WHAT IT READS IS OF BULK AT MOST 1048576: true; the input reads as it did. -/
def orderRulesUptoRow : OpenClaim := { program := "ytklbcpaoccdmeaadoor", sum := "1e00320cfbabdfbf5b7784f82f2fdebc671c6266a5225d8e2152fd5232da9997", func := "dioptre/dioptrelaw05.OrderRules", spec := "orderRules", inPlace := ["math/bits.Add64", "math/bits.Sub64"], named := ["dioptre/order.q"], apart := false, laid := [("dioptre/order.q", laid_dioptre_order_q)], narrowed := true }
def OrderRulesUptoSaid : Prop := orderRulesUptoRow.holds Tryd.pinned (OpenSpec.upto orderRulesSpec)

end Rows
end Go.Proofs.YtklbcpaoccdmeaaDoor
