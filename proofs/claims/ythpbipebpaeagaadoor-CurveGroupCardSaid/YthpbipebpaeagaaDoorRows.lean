/-
  NARROWER THAN 'FOR EVERY INPUT', by the rows' own cells (each row's printed sentence says how): FieldReads: laid · FieldReckons: laid · FieldChains: laid · FieldPowers: laid · FieldRoots: laid · FieldRules: laid · CurveDecodes: laid · CurveMuls: laid · CurveAdds: laid · CurveBoths: laid · CurveGroup: laid.
  DERIVED. THE GIVEN ROWS OF THIS SEAT. 11 by the template 'for every input the law returns true; each argument reads behind the call as it read before'; 0 by the template 'total and deterministic' (their statements: YthpbipebpaeagaaDoorTotals.lean).
  GIVEN WITH THE SEED: the statements are not yours to turn. If you find one false, say at which input.
  Laid BY PROGRAM, IN A SANDBOX (cutbox-rows.mjs): the forced cells as the released guide's own fill.sh prints them over the translation 0dbf9b1500d46c4e… (all of the seat's roots in one cut). By AI agents, Wed Nov 11 2026. No macro, syntax, notation, axiom, sorry.
-/
import Derived.Test.YthpbipebpaeagaaDoorChecked
import GoSem.Claim
import GoSem.ClaimJoined
import GoSem.ClaimMapViews
import Derived.JoinedTies
import Derived.KernelRfl
namespace Go.Proofs.YthpbipebpaeagaaDoor
/- THE CELL 'sum', in the pinned program and in every row, IS THE sha256 OF THE DUMP (.gsa) THAT YthpbipebpaeagaaDoorProg.lean LOADS. Nothing in Lean hashes anything: it is a label: what it is worth is what the hold of that sum in a sandbox is worth. -/
noncomputable def Tryd.pinned : Pinned := { name := "ythpbipebpaeagaadoor", sum := "0dbf9b1500d46c4e71dd9d20bc2286b467d3c107f4b8fe0f2ee191e4dfcbd956", checked := Tryd.checked }
namespace Rows
def none {H : Type} : Left H := { results := [], args := [] }

/- WHAT THE LISTED PACKAGE-LEVEL VARIABLES READ AS WHEN THE CALL BEGINS. Each datum BY PROGRAM (the guide's laid-datum.mjs) off the statement by which the dump's own 'gosem.cut.vars' lays the variable. In a bare row this is a premise. The card (YthpbipebpaeagaaDoorCards.lean) ties it to the program's text. -/
def laid_dioptre_field_enough {H : Type} : DataW H := .agg [.lit (.int .u64 9007199254740916), .lit (.int .u64 9007199254740988), .lit (.int .u64 9007199254740988), .lit (.int .u64 9007199254740988), .lit (.int .u64 9007199254740988)]
def laid_dioptre_field_rootOfMinus {H : Type} : DataW H := .agg [.lit (.int .u64 1718705420411056), .lit (.int .u64 234908883556509), .lit (.int .u64 2233514472574048), .lit (.int .u64 2117202627021982), .lit (.int .u64 765476049583133)]
def laid_dioptre_curve_d {H : Type} : DataW H := .agg [.lit (.int .u8 163), .lit (.int .u8 120), .lit (.int .u8 89), .lit (.int .u8 19), .lit (.int .u8 202), .lit (.int .u8 77), .lit (.int .u8 235), .lit (.int .u8 117), .lit (.int .u8 171), .lit (.int .u8 216), .lit (.int .u8 65), .lit (.int .u8 65), .lit (.int .u8 77), .lit (.int .u8 10), .lit (.int .u8 112), .lit (.int .u8 0), .lit (.int .u8 152), .lit (.int .u8 232), .lit (.int .u8 121), .lit (.int .u8 119), .lit (.int .u8 121), .lit (.int .u8 64), .lit (.int .u8 199), .lit (.int .u8 140), .lit (.int .u8 115), .lit (.int .u8 254), .lit (.int .u8 111), .lit (.int .u8 43), .lit (.int .u8 238), .lit (.int .u8 108), .lit (.int .u8 3), .lit (.int .u8 82)]
def laid_dioptre_curve_baseX {H : Type} : DataW H := .agg [.lit (.int .u8 26), .lit (.int .u8 213), .lit (.int .u8 37), .lit (.int .u8 143), .lit (.int .u8 96), .lit (.int .u8 45), .lit (.int .u8 86), .lit (.int .u8 201), .lit (.int .u8 178), .lit (.int .u8 167), .lit (.int .u8 37), .lit (.int .u8 149), .lit (.int .u8 96), .lit (.int .u8 199), .lit (.int .u8 44), .lit (.int .u8 105), .lit (.int .u8 92), .lit (.int .u8 220), .lit (.int .u8 214), .lit (.int .u8 253), .lit (.int .u8 49), .lit (.int .u8 226), .lit (.int .u8 164), .lit (.int .u8 192), .lit (.int .u8 254), .lit (.int .u8 83), .lit (.int .u8 110), .lit (.int .u8 205), .lit (.int .u8 211), .lit (.int .u8 54), .lit (.int .u8 105), .lit (.int .u8 33)]
def laid_dioptre_curve_baseY {H : Type} : DataW H := .agg [.lit (.int .u8 88), .lit (.int .u8 102), .lit (.int .u8 102), .lit (.int .u8 102), .lit (.int .u8 102), .lit (.int .u8 102), .lit (.int .u8 102), .lit (.int .u8 102), .lit (.int .u8 102), .lit (.int .u8 102), .lit (.int .u8 102), .lit (.int .u8 102), .lit (.int .u8 102), .lit (.int .u8 102), .lit (.int .u8 102), .lit (.int .u8 102), .lit (.int .u8 102), .lit (.int .u8 102), .lit (.int .u8 102), .lit (.int .u8 102), .lit (.int .u8 102), .lit (.int .u8 102), .lit (.int .u8 102), .lit (.int .u8 102), .lit (.int .u8 102), .lit (.int .u8 102), .lit (.int .u8 102), .lit (.int .u8 102), .lit (.int .u8 102), .lit (.int .u8 102), .lit (.int .u8 102), .lit (.int .u8 102)]

/-- 'dioptrelaw04.FieldReads': WHATEVER THE INPUT: true; the input reads as it did. -/
def fieldReadsSpec : ChangeSpec := { name := "fieldReads", fn := fun _ => fun
  | [d1, d2] => { results := [.lit (.bool true)], args := [d1, d2] }
  | _ => none }
def fieldReadsRow : OpenClaim := { program := "ythpbipebpaeagaadoor", sum := "0dbf9b1500d46c4e71dd9d20bc2286b467d3c107f4b8fe0f2ee191e4dfcbd956", func := "dioptre/dioptrelaw04.FieldReads", spec := "fieldReads", inPlace := ["math/bits.Add64"], unfollowed := true, recurses := true, named := ["dioptre/field.rootOfMinus", "dioptre/field.enough"], apart := false, laid := [("dioptre/field.enough", laid_dioptre_field_enough), ("dioptre/field.rootOfMinus", laid_dioptre_field_rootOfMinus)] }
def FieldReadsSaid : Prop := fieldReadsRow.holds Tryd.pinned (OpenSpec.ofChange fieldReadsSpec)

/-- ITS FALSE NEIGHBOUR: 'it returns false'. Refute it at one input. -/
def fieldReadsWrong : ChangeSpec := { name := "fieldReads", fn := fun _ => fun
  | [d1, d2] => { results := [.lit (.bool false)], args := [d1, d2] }
  | _ => none }
def FieldReadsWrongFalsely : Prop := fieldReadsRow.holds Tryd.pinned (OpenSpec.ofChange fieldReadsWrong)

/-- 'dioptrelaw04.FieldReckons': WHATEVER THE INPUT: true; the input reads as it did. -/
def fieldReckonsSpec : ChangeSpec := { name := "fieldReckons", fn := fun _ => fun
  | [d1, d2] => { results := [.lit (.bool true)], args := [d1, d2] }
  | _ => none }
def fieldReckonsRow : OpenClaim := { program := "ythpbipebpaeagaadoor", sum := "0dbf9b1500d46c4e71dd9d20bc2286b467d3c107f4b8fe0f2ee191e4dfcbd956", func := "dioptre/dioptrelaw04.FieldReckons", spec := "fieldReckons", inPlace := ["math/bits.Add64"], unfollowed := true, recurses := true, named := ["dioptre/field.enough", "dioptre/field.rootOfMinus"], apart := false, laid := [("dioptre/field.enough", laid_dioptre_field_enough), ("dioptre/field.rootOfMinus", laid_dioptre_field_rootOfMinus)] }
def FieldReckonsSaid : Prop := fieldReckonsRow.holds Tryd.pinned (OpenSpec.ofChange fieldReckonsSpec)

/-- ITS FALSE NEIGHBOUR: 'it returns false'. Refute it at one input. -/
def fieldReckonsWrong : ChangeSpec := { name := "fieldReckons", fn := fun _ => fun
  | [d1, d2] => { results := [.lit (.bool false)], args := [d1, d2] }
  | _ => none }
def FieldReckonsWrongFalsely : Prop := fieldReckonsRow.holds Tryd.pinned (OpenSpec.ofChange fieldReckonsWrong)

/-- 'dioptrelaw04.FieldChains': WHATEVER THE INPUT: true; the input reads as it did. -/
def fieldChainsSpec : ChangeSpec := { name := "fieldChains", fn := fun _ => fun
  | [d1, d2, d3] => { results := [.lit (.bool true)], args := [d1, d2, d3] }
  | _ => none }
def fieldChainsRow : OpenClaim := { program := "ythpbipebpaeagaadoor", sum := "0dbf9b1500d46c4e71dd9d20bc2286b467d3c107f4b8fe0f2ee191e4dfcbd956", func := "dioptre/dioptrelaw04.FieldChains", spec := "fieldChains", inPlace := ["math/bits.Add64"], unfollowed := true, recurses := true, named := ["dioptre/field.enough", "dioptre/field.rootOfMinus"], apart := false, laid := [("dioptre/field.enough", laid_dioptre_field_enough), ("dioptre/field.rootOfMinus", laid_dioptre_field_rootOfMinus)] }
def FieldChainsSaid : Prop := fieldChainsRow.holds Tryd.pinned (OpenSpec.ofChange fieldChainsSpec)

/-- ITS FALSE NEIGHBOUR: 'it returns false'. Refute it at one input. -/
def fieldChainsWrong : ChangeSpec := { name := "fieldChains", fn := fun _ => fun
  | [d1, d2, d3] => { results := [.lit (.bool false)], args := [d1, d2, d3] }
  | _ => none }
def FieldChainsWrongFalsely : Prop := fieldChainsRow.holds Tryd.pinned (OpenSpec.ofChange fieldChainsWrong)

/-- 'dioptrelaw04.FieldPowers': WHATEVER THE INPUT: true; the input reads as it did. -/
def fieldPowersSpec : ChangeSpec := { name := "fieldPowers", fn := fun _ => fun
  | [d1, d2, d3] => { results := [.lit (.bool true)], args := [d1, d2, d3] }
  | _ => none }
def fieldPowersRow : OpenClaim := { program := "ythpbipebpaeagaadoor", sum := "0dbf9b1500d46c4e71dd9d20bc2286b467d3c107f4b8fe0f2ee191e4dfcbd956", func := "dioptre/dioptrelaw04.FieldPowers", spec := "fieldPowers", inPlace := ["math/bits.Add64"], unfollowed := true, recurses := true, named := ["dioptre/field.rootOfMinus", "dioptre/field.enough"], apart := false, laid := [("dioptre/field.enough", laid_dioptre_field_enough), ("dioptre/field.rootOfMinus", laid_dioptre_field_rootOfMinus)] }
def FieldPowersSaid : Prop := fieldPowersRow.holds Tryd.pinned (OpenSpec.ofChange fieldPowersSpec)

/-- ITS FALSE NEIGHBOUR: 'it returns false'. Refute it at one input. -/
def fieldPowersWrong : ChangeSpec := { name := "fieldPowers", fn := fun _ => fun
  | [d1, d2, d3] => { results := [.lit (.bool false)], args := [d1, d2, d3] }
  | _ => none }
def FieldPowersWrongFalsely : Prop := fieldPowersRow.holds Tryd.pinned (OpenSpec.ofChange fieldPowersWrong)

/-- 'dioptrelaw04.FieldRoots': WHATEVER THE INPUT: true; the input reads as it did. -/
def fieldRootsSpec : ChangeSpec := { name := "fieldRoots", fn := fun _ => fun
  | [d1, d2] => { results := [.lit (.bool true)], args := [d1, d2] }
  | _ => none }
def fieldRootsRow : OpenClaim := { program := "ythpbipebpaeagaadoor", sum := "0dbf9b1500d46c4e71dd9d20bc2286b467d3c107f4b8fe0f2ee191e4dfcbd956", func := "dioptre/dioptrelaw04.FieldRoots", spec := "fieldRoots", inPlace := ["math/bits.Add64"], unfollowed := true, recurses := true, named := ["dioptre/field.rootOfMinus", "dioptre/field.enough"], apart := false, laid := [("dioptre/field.enough", laid_dioptre_field_enough), ("dioptre/field.rootOfMinus", laid_dioptre_field_rootOfMinus)] }
def FieldRootsSaid : Prop := fieldRootsRow.holds Tryd.pinned (OpenSpec.ofChange fieldRootsSpec)

/-- ITS FALSE NEIGHBOUR: 'it returns false'. Refute it at one input. -/
def fieldRootsWrong : ChangeSpec := { name := "fieldRoots", fn := fun _ => fun
  | [d1, d2] => { results := [.lit (.bool false)], args := [d1, d2] }
  | _ => none }
def FieldRootsWrongFalsely : Prop := fieldRootsRow.holds Tryd.pinned (OpenSpec.ofChange fieldRootsWrong)

/-- 'dioptrelaw04.FieldRules': WHATEVER THE INPUT: true; the input reads as it did. -/
def fieldRulesSpec : ChangeSpec := { name := "fieldRules", fn := fun _ => fun
  | [d1, d2, d3] => { results := [.lit (.bool true)], args := [d1, d2, d3] }
  | _ => none }
def fieldRulesRow : OpenClaim := { program := "ythpbipebpaeagaadoor", sum := "0dbf9b1500d46c4e71dd9d20bc2286b467d3c107f4b8fe0f2ee191e4dfcbd956", func := "dioptre/dioptrelaw04.FieldRules", spec := "fieldRules", inPlace := ["math/bits.Add64"], unfollowed := true, recurses := true, named := ["dioptre/field.enough", "dioptre/field.rootOfMinus"], apart := false, laid := [("dioptre/field.enough", laid_dioptre_field_enough), ("dioptre/field.rootOfMinus", laid_dioptre_field_rootOfMinus)] }
def FieldRulesSaid : Prop := fieldRulesRow.holds Tryd.pinned (OpenSpec.ofChange fieldRulesSpec)

/-- ITS FALSE NEIGHBOUR: 'it returns false'. Refute it at one input. -/
def fieldRulesWrong : ChangeSpec := { name := "fieldRules", fn := fun _ => fun
  | [d1, d2, d3] => { results := [.lit (.bool false)], args := [d1, d2, d3] }
  | _ => none }
def FieldRulesWrongFalsely : Prop := fieldRulesRow.holds Tryd.pinned (OpenSpec.ofChange fieldRulesWrong)

/-- 'dioptrelaw06.CurveDecodes': WHATEVER THE INPUT: true; the input reads as it did. -/
def curveDecodesSpec : ChangeSpec := { name := "curveDecodes", fn := fun _ => fun
  | [d] => { results := [.lit (.bool true)], args := [d] }
  | _ => none }
def curveDecodesRow : OpenClaim := { program := "ythpbipebpaeagaadoor", sum := "0dbf9b1500d46c4e71dd9d20bc2286b467d3c107f4b8fe0f2ee191e4dfcbd956", func := "dioptre/dioptrelaw06.CurveDecodes", spec := "curveDecodes", inPlace := ["math/bits.Add64"], unfollowed := true, recurses := true, named := ["dioptre/curve.d", "dioptre/field.enough", "dioptre/field.rootOfMinus", "dioptre/curve.baseX", "dioptre/curve.baseY"], apart := false, laid := [("dioptre/field.enough", laid_dioptre_field_enough), ("dioptre/field.rootOfMinus", laid_dioptre_field_rootOfMinus), ("dioptre/curve.d", laid_dioptre_curve_d), ("dioptre/curve.baseX", laid_dioptre_curve_baseX), ("dioptre/curve.baseY", laid_dioptre_curve_baseY)] }
def CurveDecodesSaid : Prop := curveDecodesRow.holds Tryd.pinned (OpenSpec.ofChange curveDecodesSpec)

/-- ITS FALSE NEIGHBOUR: 'it returns false'. Refute it at one input. -/
def curveDecodesWrong : ChangeSpec := { name := "curveDecodes", fn := fun _ => fun
  | [d] => { results := [.lit (.bool false)], args := [d] }
  | _ => none }
def CurveDecodesWrongFalsely : Prop := curveDecodesRow.holds Tryd.pinned (OpenSpec.ofChange curveDecodesWrong)

/-- 'dioptrelaw06.CurveMuls': WHATEVER THE INPUT: true; the input reads as it did. -/
def curveMulsSpec : ChangeSpec := { name := "curveMuls", fn := fun _ => fun
  | [d] => { results := [.lit (.bool true)], args := [d] }
  | _ => none }
def curveMulsRow : OpenClaim := { program := "ythpbipebpaeagaadoor", sum := "0dbf9b1500d46c4e71dd9d20bc2286b467d3c107f4b8fe0f2ee191e4dfcbd956", func := "dioptre/dioptrelaw06.CurveMuls", spec := "curveMuls", inPlace := ["math/bits.Add64"], unfollowed := true, recurses := true, named := ["dioptre/curve.baseX", "dioptre/curve.baseY", "dioptre/curve.d", "dioptre/field.enough", "dioptre/field.rootOfMinus"], apart := false, laid := [("dioptre/field.enough", laid_dioptre_field_enough), ("dioptre/field.rootOfMinus", laid_dioptre_field_rootOfMinus), ("dioptre/curve.d", laid_dioptre_curve_d), ("dioptre/curve.baseX", laid_dioptre_curve_baseX), ("dioptre/curve.baseY", laid_dioptre_curve_baseY)] }
def CurveMulsSaid : Prop := curveMulsRow.holds Tryd.pinned (OpenSpec.ofChange curveMulsSpec)

/-- ITS FALSE NEIGHBOUR: 'it returns false'. Refute it at one input. -/
def curveMulsWrong : ChangeSpec := { name := "curveMuls", fn := fun _ => fun
  | [d] => { results := [.lit (.bool false)], args := [d] }
  | _ => none }
def CurveMulsWrongFalsely : Prop := curveMulsRow.holds Tryd.pinned (OpenSpec.ofChange curveMulsWrong)

/-- 'dioptrelaw06.CurveAdds': WHATEVER THE INPUT: true; the input reads as it did. -/
def curveAddsSpec : ChangeSpec := { name := "curveAdds", fn := fun _ => fun
  | [d1, d2, d3] => { results := [.lit (.bool true)], args := [d1, d2, d3] }
  | _ => none }
def curveAddsRow : OpenClaim := { program := "ythpbipebpaeagaadoor", sum := "0dbf9b1500d46c4e71dd9d20bc2286b467d3c107f4b8fe0f2ee191e4dfcbd956", func := "dioptre/dioptrelaw06.CurveAdds", spec := "curveAdds", inPlace := ["math/bits.Add64"], unfollowed := true, recurses := true, named := ["dioptre/curve.d", "dioptre/field.enough", "dioptre/field.rootOfMinus", "dioptre/curve.baseX", "dioptre/curve.baseY"], apart := false, laid := [("dioptre/field.enough", laid_dioptre_field_enough), ("dioptre/field.rootOfMinus", laid_dioptre_field_rootOfMinus), ("dioptre/curve.d", laid_dioptre_curve_d), ("dioptre/curve.baseX", laid_dioptre_curve_baseX), ("dioptre/curve.baseY", laid_dioptre_curve_baseY)] }
def CurveAddsSaid : Prop := curveAddsRow.holds Tryd.pinned (OpenSpec.ofChange curveAddsSpec)

/-- ITS FALSE NEIGHBOUR: 'it returns false'. Refute it at one input. -/
def curveAddsWrong : ChangeSpec := { name := "curveAdds", fn := fun _ => fun
  | [d1, d2, d3] => { results := [.lit (.bool false)], args := [d1, d2, d3] }
  | _ => none }
def CurveAddsWrongFalsely : Prop := curveAddsRow.holds Tryd.pinned (OpenSpec.ofChange curveAddsWrong)

/-- 'dioptrelaw06.CurveBoths': WHATEVER THE INPUT: true; the input reads as it did. -/
def curveBothsSpec : ChangeSpec := { name := "curveBoths", fn := fun _ => fun
  | [d1, d2, d3] => { results := [.lit (.bool true)], args := [d1, d2, d3] }
  | _ => none }
def curveBothsRow : OpenClaim := { program := "ythpbipebpaeagaadoor", sum := "0dbf9b1500d46c4e71dd9d20bc2286b467d3c107f4b8fe0f2ee191e4dfcbd956", func := "dioptre/dioptrelaw06.CurveBoths", spec := "curveBoths", inPlace := ["math/bits.Add64"], unfollowed := true, recurses := true, named := ["dioptre/curve.d", "dioptre/field.enough", "dioptre/field.rootOfMinus", "dioptre/curve.baseX", "dioptre/curve.baseY"], apart := false, laid := [("dioptre/field.enough", laid_dioptre_field_enough), ("dioptre/field.rootOfMinus", laid_dioptre_field_rootOfMinus), ("dioptre/curve.d", laid_dioptre_curve_d), ("dioptre/curve.baseX", laid_dioptre_curve_baseX), ("dioptre/curve.baseY", laid_dioptre_curve_baseY)] }
def CurveBothsSaid : Prop := curveBothsRow.holds Tryd.pinned (OpenSpec.ofChange curveBothsSpec)

/-- ITS FALSE NEIGHBOUR: 'it returns false'. Refute it at one input. -/
def curveBothsWrong : ChangeSpec := { name := "curveBoths", fn := fun _ => fun
  | [d1, d2, d3] => { results := [.lit (.bool false)], args := [d1, d2, d3] }
  | _ => none }
def CurveBothsWrongFalsely : Prop := curveBothsRow.holds Tryd.pinned (OpenSpec.ofChange curveBothsWrong)

/-- 'dioptrelaw06.CurveGroup': WHATEVER THE INPUT: true; the input reads as it did. -/
def curveGroupSpec : ChangeSpec := { name := "curveGroup", fn := fun _ => fun
  | [d1, d2, d3] => { results := [.lit (.bool true)], args := [d1, d2, d3] }
  | _ => none }
def curveGroupRow : OpenClaim := { program := "ythpbipebpaeagaadoor", sum := "0dbf9b1500d46c4e71dd9d20bc2286b467d3c107f4b8fe0f2ee191e4dfcbd956", func := "dioptre/dioptrelaw06.CurveGroup", spec := "curveGroup", inPlace := ["math/bits.Add64"], unfollowed := true, recurses := true, named := ["dioptre/curve.baseX", "dioptre/curve.baseY", "dioptre/curve.d", "dioptre/field.enough"], apart := false, laid := [("dioptre/field.enough", laid_dioptre_field_enough), ("dioptre/curve.d", laid_dioptre_curve_d), ("dioptre/curve.baseX", laid_dioptre_curve_baseX), ("dioptre/curve.baseY", laid_dioptre_curve_baseY)] }
def CurveGroupSaid : Prop := curveGroupRow.holds Tryd.pinned (OpenSpec.ofChange curveGroupSpec)

/-- ITS FALSE NEIGHBOUR: 'it returns false'. Refute it at one input. -/
def curveGroupWrong : ChangeSpec := { name := "curveGroup", fn := fun _ => fun
  | [d1, d2, d3] => { results := [.lit (.bool false)], args := [d1, d2, d3] }
  | _ => none }
def CurveGroupWrongFalsely : Prop := curveGroupRow.holds Tryd.pinned (OpenSpec.ofChange curveGroupWrong)

/- THE SECOND FORM. 'bulk': how many values and letters a reading holds, each counted each time it is reached (what is shared counts as often as it is met; a slice's spare places count too). A statement '..UptoSaid' is the law's where the arguments, and the package variables that the reading takes, are together of bulk at most 1048576: NARROWER than '..Said'. Prove '..Said' where nothing that the law and all that it calls make is longer than what came in: it says more and counts as full. Else prove '..UptoSaid'. A law counts once. -/
mutual
def uptoBulk {H : Type} : DataW H → Nat
  | .lit (.string bytes) => bytes.length + 1
  | .lit _ => 1
  | .nil => 1
  | .ptr d => uptoBulk d + 1
  | .slice elems spare => uptoBulkAll elems + uptoBulkAll spare + 1
  | .agg parts => uptoBulkAll parts + 1
  | .iface _ d => uptoBulk d + 1
  | .map entries => uptoBulkEntries entries + 1
  | .held _ => 1
def uptoBulkAll {H : Type} : List (DataW H) → Nat
  | [] => 0
  | d :: r => uptoBulk d + uptoBulkAll r
def uptoBulkEntries {H : Type} : List (Lit × DataW H) → Nat
  | [] => 0
  | x :: r => uptoBulkEntry x + uptoBulkEntries r
def uptoBulkEntry {H : Type} : Lit × DataW H → Nat
  | (.string bytes, d) => bytes.length + uptoBulk d + 1
  | (_, d) => uptoBulk d + 1
 end
def uptoSmall : (H : Type) → List (DataW H) → Bool := fun _ ds => decide (uptoBulkAll ds ≤ 1048576)
def OpenSpec.upto (s : _root_.Go.ChangeSpec) : _root_.Go.OpenSpec := { _root_.Go.OpenSpec.ofChange s with cond := some uptoSmall }

/-- 'dioptrelaw04.FieldReads', WHERE WHAT IT READS IS OF BULK AT MOST 1048576: true; the input reads as it did. -/
def fieldReadsUptoRow : OpenClaim := { program := "ythpbipebpaeagaadoor", sum := "0dbf9b1500d46c4e71dd9d20bc2286b467d3c107f4b8fe0f2ee191e4dfcbd956", func := "dioptre/dioptrelaw04.FieldReads", spec := "fieldReads", inPlace := ["math/bits.Add64"], unfollowed := true, recurses := true, named := ["dioptre/field.rootOfMinus", "dioptre/field.enough"], apart := false, laid := [("dioptre/field.enough", laid_dioptre_field_enough), ("dioptre/field.rootOfMinus", laid_dioptre_field_rootOfMinus)], narrowed := true }
def FieldReadsUptoSaid : Prop := fieldReadsUptoRow.holds Tryd.pinned (OpenSpec.upto fieldReadsSpec)

/-- 'dioptrelaw04.FieldReckons', WHERE WHAT IT READS IS OF BULK AT MOST 1048576: true; the input reads as it did. -/
def fieldReckonsUptoRow : OpenClaim := { program := "ythpbipebpaeagaadoor", sum := "0dbf9b1500d46c4e71dd9d20bc2286b467d3c107f4b8fe0f2ee191e4dfcbd956", func := "dioptre/dioptrelaw04.FieldReckons", spec := "fieldReckons", inPlace := ["math/bits.Add64"], unfollowed := true, recurses := true, named := ["dioptre/field.enough", "dioptre/field.rootOfMinus"], apart := false, laid := [("dioptre/field.enough", laid_dioptre_field_enough), ("dioptre/field.rootOfMinus", laid_dioptre_field_rootOfMinus)], narrowed := true }
def FieldReckonsUptoSaid : Prop := fieldReckonsUptoRow.holds Tryd.pinned (OpenSpec.upto fieldReckonsSpec)

/-- 'dioptrelaw04.FieldChains', WHERE WHAT IT READS IS OF BULK AT MOST 1048576: true; the input reads as it did. -/
def fieldChainsUptoRow : OpenClaim := { program := "ythpbipebpaeagaadoor", sum := "0dbf9b1500d46c4e71dd9d20bc2286b467d3c107f4b8fe0f2ee191e4dfcbd956", func := "dioptre/dioptrelaw04.FieldChains", spec := "fieldChains", inPlace := ["math/bits.Add64"], unfollowed := true, recurses := true, named := ["dioptre/field.enough", "dioptre/field.rootOfMinus"], apart := false, laid := [("dioptre/field.enough", laid_dioptre_field_enough), ("dioptre/field.rootOfMinus", laid_dioptre_field_rootOfMinus)], narrowed := true }
def FieldChainsUptoSaid : Prop := fieldChainsUptoRow.holds Tryd.pinned (OpenSpec.upto fieldChainsSpec)

/-- 'dioptrelaw04.FieldPowers', WHERE WHAT IT READS IS OF BULK AT MOST 1048576: true; the input reads as it did. -/
def fieldPowersUptoRow : OpenClaim := { program := "ythpbipebpaeagaadoor", sum := "0dbf9b1500d46c4e71dd9d20bc2286b467d3c107f4b8fe0f2ee191e4dfcbd956", func := "dioptre/dioptrelaw04.FieldPowers", spec := "fieldPowers", inPlace := ["math/bits.Add64"], unfollowed := true, recurses := true, named := ["dioptre/field.rootOfMinus", "dioptre/field.enough"], apart := false, laid := [("dioptre/field.enough", laid_dioptre_field_enough), ("dioptre/field.rootOfMinus", laid_dioptre_field_rootOfMinus)], narrowed := true }
def FieldPowersUptoSaid : Prop := fieldPowersUptoRow.holds Tryd.pinned (OpenSpec.upto fieldPowersSpec)

/-- 'dioptrelaw04.FieldRoots', WHERE WHAT IT READS IS OF BULK AT MOST 1048576: true; the input reads as it did. -/
def fieldRootsUptoRow : OpenClaim := { program := "ythpbipebpaeagaadoor", sum := "0dbf9b1500d46c4e71dd9d20bc2286b467d3c107f4b8fe0f2ee191e4dfcbd956", func := "dioptre/dioptrelaw04.FieldRoots", spec := "fieldRoots", inPlace := ["math/bits.Add64"], unfollowed := true, recurses := true, named := ["dioptre/field.rootOfMinus", "dioptre/field.enough"], apart := false, laid := [("dioptre/field.enough", laid_dioptre_field_enough), ("dioptre/field.rootOfMinus", laid_dioptre_field_rootOfMinus)], narrowed := true }
def FieldRootsUptoSaid : Prop := fieldRootsUptoRow.holds Tryd.pinned (OpenSpec.upto fieldRootsSpec)

/-- 'dioptrelaw04.FieldRules', WHERE WHAT IT READS IS OF BULK AT MOST 1048576: true; the input reads as it did. -/
def fieldRulesUptoRow : OpenClaim := { program := "ythpbipebpaeagaadoor", sum := "0dbf9b1500d46c4e71dd9d20bc2286b467d3c107f4b8fe0f2ee191e4dfcbd956", func := "dioptre/dioptrelaw04.FieldRules", spec := "fieldRules", inPlace := ["math/bits.Add64"], unfollowed := true, recurses := true, named := ["dioptre/field.enough", "dioptre/field.rootOfMinus"], apart := false, laid := [("dioptre/field.enough", laid_dioptre_field_enough), ("dioptre/field.rootOfMinus", laid_dioptre_field_rootOfMinus)], narrowed := true }
def FieldRulesUptoSaid : Prop := fieldRulesUptoRow.holds Tryd.pinned (OpenSpec.upto fieldRulesSpec)

/-- 'dioptrelaw06.CurveDecodes', WHERE WHAT IT READS IS OF BULK AT MOST 1048576: true; the input reads as it did. -/
def curveDecodesUptoRow : OpenClaim := { program := "ythpbipebpaeagaadoor", sum := "0dbf9b1500d46c4e71dd9d20bc2286b467d3c107f4b8fe0f2ee191e4dfcbd956", func := "dioptre/dioptrelaw06.CurveDecodes", spec := "curveDecodes", inPlace := ["math/bits.Add64"], unfollowed := true, recurses := true, named := ["dioptre/curve.d", "dioptre/field.enough", "dioptre/field.rootOfMinus", "dioptre/curve.baseX", "dioptre/curve.baseY"], apart := false, laid := [("dioptre/field.enough", laid_dioptre_field_enough), ("dioptre/field.rootOfMinus", laid_dioptre_field_rootOfMinus), ("dioptre/curve.d", laid_dioptre_curve_d), ("dioptre/curve.baseX", laid_dioptre_curve_baseX), ("dioptre/curve.baseY", laid_dioptre_curve_baseY)], narrowed := true }
def CurveDecodesUptoSaid : Prop := curveDecodesUptoRow.holds Tryd.pinned (OpenSpec.upto curveDecodesSpec)

/-- 'dioptrelaw06.CurveMuls', WHERE WHAT IT READS IS OF BULK AT MOST 1048576: true; the input reads as it did. -/
def curveMulsUptoRow : OpenClaim := { program := "ythpbipebpaeagaadoor", sum := "0dbf9b1500d46c4e71dd9d20bc2286b467d3c107f4b8fe0f2ee191e4dfcbd956", func := "dioptre/dioptrelaw06.CurveMuls", spec := "curveMuls", inPlace := ["math/bits.Add64"], unfollowed := true, recurses := true, named := ["dioptre/curve.baseX", "dioptre/curve.baseY", "dioptre/curve.d", "dioptre/field.enough", "dioptre/field.rootOfMinus"], apart := false, laid := [("dioptre/field.enough", laid_dioptre_field_enough), ("dioptre/field.rootOfMinus", laid_dioptre_field_rootOfMinus), ("dioptre/curve.d", laid_dioptre_curve_d), ("dioptre/curve.baseX", laid_dioptre_curve_baseX), ("dioptre/curve.baseY", laid_dioptre_curve_baseY)], narrowed := true }
def CurveMulsUptoSaid : Prop := curveMulsUptoRow.holds Tryd.pinned (OpenSpec.upto curveMulsSpec)

/-- 'dioptrelaw06.CurveAdds', WHERE WHAT IT READS IS OF BULK AT MOST 1048576: true; the input reads as it did. -/
def curveAddsUptoRow : OpenClaim := { program := "ythpbipebpaeagaadoor", sum := "0dbf9b1500d46c4e71dd9d20bc2286b467d3c107f4b8fe0f2ee191e4dfcbd956", func := "dioptre/dioptrelaw06.CurveAdds", spec := "curveAdds", inPlace := ["math/bits.Add64"], unfollowed := true, recurses := true, named := ["dioptre/curve.d", "dioptre/field.enough", "dioptre/field.rootOfMinus", "dioptre/curve.baseX", "dioptre/curve.baseY"], apart := false, laid := [("dioptre/field.enough", laid_dioptre_field_enough), ("dioptre/field.rootOfMinus", laid_dioptre_field_rootOfMinus), ("dioptre/curve.d", laid_dioptre_curve_d), ("dioptre/curve.baseX", laid_dioptre_curve_baseX), ("dioptre/curve.baseY", laid_dioptre_curve_baseY)], narrowed := true }
def CurveAddsUptoSaid : Prop := curveAddsUptoRow.holds Tryd.pinned (OpenSpec.upto curveAddsSpec)

/-- 'dioptrelaw06.CurveBoths', WHERE WHAT IT READS IS OF BULK AT MOST 1048576: true; the input reads as it did. -/
def curveBothsUptoRow : OpenClaim := { program := "ythpbipebpaeagaadoor", sum := "0dbf9b1500d46c4e71dd9d20bc2286b467d3c107f4b8fe0f2ee191e4dfcbd956", func := "dioptre/dioptrelaw06.CurveBoths", spec := "curveBoths", inPlace := ["math/bits.Add64"], unfollowed := true, recurses := true, named := ["dioptre/curve.d", "dioptre/field.enough", "dioptre/field.rootOfMinus", "dioptre/curve.baseX", "dioptre/curve.baseY"], apart := false, laid := [("dioptre/field.enough", laid_dioptre_field_enough), ("dioptre/field.rootOfMinus", laid_dioptre_field_rootOfMinus), ("dioptre/curve.d", laid_dioptre_curve_d), ("dioptre/curve.baseX", laid_dioptre_curve_baseX), ("dioptre/curve.baseY", laid_dioptre_curve_baseY)], narrowed := true }
def CurveBothsUptoSaid : Prop := curveBothsUptoRow.holds Tryd.pinned (OpenSpec.upto curveBothsSpec)

/-- 'dioptrelaw06.CurveGroup', WHERE WHAT IT READS IS OF BULK AT MOST 1048576: true; the input reads as it did. -/
def curveGroupUptoRow : OpenClaim := { program := "ythpbipebpaeagaadoor", sum := "0dbf9b1500d46c4e71dd9d20bc2286b467d3c107f4b8fe0f2ee191e4dfcbd956", func := "dioptre/dioptrelaw06.CurveGroup", spec := "curveGroup", inPlace := ["math/bits.Add64"], unfollowed := true, recurses := true, named := ["dioptre/curve.baseX", "dioptre/curve.baseY", "dioptre/curve.d", "dioptre/field.enough"], apart := false, laid := [("dioptre/field.enough", laid_dioptre_field_enough), ("dioptre/curve.d", laid_dioptre_curve_d), ("dioptre/curve.baseX", laid_dioptre_curve_baseX), ("dioptre/curve.baseY", laid_dioptre_curve_baseY)], narrowed := true }
def CurveGroupUptoSaid : Prop := curveGroupUptoRow.holds Tryd.pinned (OpenSpec.upto curveGroupSpec)

end Rows
end Go.Proofs.YthpbipebpaeagaaDoor
