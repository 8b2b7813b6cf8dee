/-
  NARROWER THAN 'FOR EVERY INPUT', by the rows' own cells (each row's printed sentence says how): ValueRight: loops · ValueParts: loops · SchemaRight: loops · SchemaFits: loops · PathTypes: loops · PathAll: loops · PathApart: loops.
  DERIVED. THE GIVEN ROWS OF THIS SEAT. 8 by the template 'for every input the law returns true; each argument reads behind the call as it read before'; 0 by the template 'total and deterministic' (their statements: YteeabfckjjbmkaaTotals.lean).
  GIVEN WITH THE SEED: the statements are not yours to turn. If you find one false, say at which input.
  Laid BY PROGRAM, IN A SANDBOX (cutbox-rows.mjs): the forced cells as the released guide's own fill.sh prints them over the translation 0e5f3108000125e5… (all of the seat's roots in one cut). By AI agents, Wed Nov 11 2026. No macro, syntax, notation, axiom, sorry.
-/
import Derived.Test.YteeabfckjjbmkaaChecked
import GoSem.Claim
import GoSem.ClaimJoined
import GoSem.ClaimMapViews
import Derived.JoinedTies
import Derived.KernelRfl
namespace Go.Proofs.Yteeabfckjjbmkaa
/- THE CELL 'sum', in the pinned program and in every row, IS THE sha256 OF THE DUMP (.gsa) THAT YteeabfckjjbmkaaProg.lean LOADS. Nothing in Lean hashes anything: it is a label: what it is worth is what the hold of that sum in a sandbox is worth. -/
noncomputable def Try.pinned : Pinned := { name := "yteeabfckjjbmkaa", sum := "0e5f3108000125e5f2f00931379b1478b7e6c744081fee1aa8676d85f3a078f0", checked := Try.checked }
namespace Rows
def none {H : Type} : Left H := { results := [], args := [] }

/-- 'dioptrelaw08.ValueRight': WHATEVER THE INPUT: true; the input reads as it did. -/
def valueRightSpec : ChangeSpec := { name := "valueRight", fn := fun _ => fun
  | [d1, d2] => { results := [.lit (.bool true)], args := [d1, d2] }
  | _ => none }
def valueRightRow : OpenClaim := { program := "yteeabfckjjbmkaa", sum := "0e5f3108000125e5f2f00931379b1478b7e6c744081fee1aa8676d85f3a078f0", func := "dioptre/dioptrelaw08.ValueRight", spec := "valueRight", inPlace := ["slices.overlaps[string]", "slices.overlaps[dioptre/api.Value]"], unfollowed := true, recurses := true, loops := true, apart := false }
def ValueRightSaid : Prop := valueRightRow.holds Try.pinned (OpenSpec.ofChange valueRightSpec)

/-- ITS FALSE NEIGHBOUR: 'it returns false'. Refute it at one input. -/
def valueRightWrong : ChangeSpec := { name := "valueRight", fn := fun _ => fun
  | [d1, d2] => { results := [.lit (.bool false)], args := [d1, d2] }
  | _ => none }
def ValueRightWrongFalsely : Prop := valueRightRow.holds Try.pinned (OpenSpec.ofChange valueRightWrong)

/-- 'dioptrelaw08.ValueParts': WHATEVER THE INPUT: true; the input reads as it did. -/
def valuePartsSpec : ChangeSpec := { name := "valueParts", fn := fun _ => fun
  | [d1, d2, d3] => { results := [.lit (.bool true)], args := [d1, d2, d3] }
  | _ => none }
def valuePartsRow : OpenClaim := { program := "yteeabfckjjbmkaa", sum := "0e5f3108000125e5f2f00931379b1478b7e6c744081fee1aa8676d85f3a078f0", func := "dioptre/dioptrelaw08.ValueParts", spec := "valueParts", inPlace := ["slices.overlaps[string]", "slices.overlaps[dioptre/api.Value]"], unfollowed := true, recurses := true, loops := true, apart := false }
def ValuePartsSaid : Prop := valuePartsRow.holds Try.pinned (OpenSpec.ofChange valuePartsSpec)

/-- ITS FALSE NEIGHBOUR: 'it returns false'. Refute it at one input. -/
def valuePartsWrong : ChangeSpec := { name := "valueParts", fn := fun _ => fun
  | [d1, d2, d3] => { results := [.lit (.bool false)], args := [d1, d2, d3] }
  | _ => none }
def ValuePartsWrongFalsely : Prop := valuePartsRow.holds Try.pinned (OpenSpec.ofChange valuePartsWrong)

/-- 'dioptrelaw09.SchemaRight': WHATEVER THE INPUT: true; the input reads as it did. -/
def schemaRightSpec : ChangeSpec := { name := "schemaRight", fn := fun _ => fun
  | [d1, d2] => { results := [.lit (.bool true)], args := [d1, d2] }
  | _ => none }
def schemaRightRow : OpenClaim := { program := "yteeabfckjjbmkaa", sum := "0e5f3108000125e5f2f00931379b1478b7e6c744081fee1aa8676d85f3a078f0", func := "dioptre/dioptrelaw09.SchemaRight", spec := "schemaRight", unfollowed := true, recurses := true, loops := true, apart := false }
def SchemaRightSaid : Prop := schemaRightRow.holds Try.pinned (OpenSpec.ofChange schemaRightSpec)

/-- ITS FALSE NEIGHBOUR: 'it returns false'. Refute it at one input. -/
def schemaRightWrong : ChangeSpec := { name := "schemaRight", fn := fun _ => fun
  | [d1, d2] => { results := [.lit (.bool false)], args := [d1, d2] }
  | _ => none }
def SchemaRightWrongFalsely : Prop := schemaRightRow.holds Try.pinned (OpenSpec.ofChange schemaRightWrong)

/-- 'dioptrelaw09.SchemaFits': WHATEVER THE INPUT: true; the input reads as it did. -/
def schemaFitsSpec : ChangeSpec := { name := "schemaFits", fn := fun _ => fun
  | [d1, d2] => { results := [.lit (.bool true)], args := [d1, d2] }
  | _ => none }
def schemaFitsRow : OpenClaim := { program := "yteeabfckjjbmkaa", sum := "0e5f3108000125e5f2f00931379b1478b7e6c744081fee1aa8676d85f3a078f0", func := "dioptre/dioptrelaw09.SchemaFits", spec := "schemaFits", unfollowed := true, recurses := true, loops := true, apart := false }
def SchemaFitsSaid : Prop := schemaFitsRow.holds Try.pinned (OpenSpec.ofChange schemaFitsSpec)

/-- ITS FALSE NEIGHBOUR: 'it returns false'. Refute it at one input. -/
def schemaFitsWrong : ChangeSpec := { name := "schemaFits", fn := fun _ => fun
  | [d1, d2] => { results := [.lit (.bool false)], args := [d1, d2] }
  | _ => none }
def SchemaFitsWrongFalsely : Prop := schemaFitsRow.holds Try.pinned (OpenSpec.ofChange schemaFitsWrong)

/-- 'dioptrelaw10.PathTypes': WHATEVER THE INPUT: true; the input reads as it did. -/
def pathTypesSpec : ChangeSpec := { name := "pathTypes", fn := fun _ => fun
  | [d1, d2] => { results := [.lit (.bool true)], args := [d1, d2] }
  | _ => none }
def pathTypesRow : OpenClaim := { program := "yteeabfckjjbmkaa", sum := "0e5f3108000125e5f2f00931379b1478b7e6c744081fee1aa8676d85f3a078f0", func := "dioptre/dioptrelaw10.PathTypes", spec := "pathTypes", unfollowed := true, recurses := true, loops := true, apart := false }
def PathTypesSaid : Prop := pathTypesRow.holds Try.pinned (OpenSpec.ofChange pathTypesSpec)

/-- ITS FALSE NEIGHBOUR: 'it returns false'. Refute it at one input. -/
def pathTypesWrong : ChangeSpec := { name := "pathTypes", fn := fun _ => fun
  | [d1, d2] => { results := [.lit (.bool false)], args := [d1, d2] }
  | _ => none }
def PathTypesWrongFalsely : Prop := pathTypesRow.holds Try.pinned (OpenSpec.ofChange pathTypesWrong)

/-- 'dioptrelaw10.PathAll': WHATEVER THE INPUT: true; the input reads as it did. -/
def pathAllSpec : ChangeSpec := { name := "pathAll", fn := fun _ => fun
  | [d] => { results := [.lit (.bool true)], args := [d] }
  | _ => none }
def pathAllRow : OpenClaim := { program := "yteeabfckjjbmkaa", sum := "0e5f3108000125e5f2f00931379b1478b7e6c744081fee1aa8676d85f3a078f0", func := "dioptre/dioptrelaw10.PathAll", spec := "pathAll", unfollowed := true, recurses := true, loops := true, apart := false }
def PathAllSaid : Prop := pathAllRow.holds Try.pinned (OpenSpec.ofChange pathAllSpec)

/-- ITS FALSE NEIGHBOUR: 'it returns false'. Refute it at one input. -/
def pathAllWrong : ChangeSpec := { name := "pathAll", fn := fun _ => fun
  | [d] => { results := [.lit (.bool false)], args := [d] }
  | _ => none }
def PathAllWrongFalsely : Prop := pathAllRow.holds Try.pinned (OpenSpec.ofChange pathAllWrong)

/-- 'dioptrelaw10.PathBytes': WHATEVER THE INPUT: true; the input reads as it did. -/
def pathBytesSpec : ChangeSpec := { name := "pathBytes", fn := fun _ => fun
  | [d1, d2] => { results := [.lit (.bool true)], args := [d1, d2] }
  | _ => none }
def pathBytesRow : OpenClaim := { program := "yteeabfckjjbmkaa", sum := "0e5f3108000125e5f2f00931379b1478b7e6c744081fee1aa8676d85f3a078f0", func := "dioptre/dioptrelaw10.PathBytes", spec := "pathBytes", unfollowed := true, recurses := true, apart := false }
def PathBytesSaid : Prop := pathBytesRow.holds Try.pinned (OpenSpec.ofChange pathBytesSpec)

/-- ITS FALSE NEIGHBOUR: 'it returns false'. Refute it at one input. -/
def pathBytesWrong : ChangeSpec := { name := "pathBytes", fn := fun _ => fun
  | [d1, d2] => { results := [.lit (.bool false)], args := [d1, d2] }
  | _ => none }
def PathBytesWrongFalsely : Prop := pathBytesRow.holds Try.pinned (OpenSpec.ofChange pathBytesWrong)

/-- 'dioptrelaw10.PathApart': WHATEVER THE INPUT: true; the input reads as it did. -/
def pathApartSpec : ChangeSpec := { name := "pathApart", fn := fun _ => fun
  | [d1, d2, d3] => { results := [.lit (.bool true)], args := [d1, d2, d3] }
  | _ => none }
def pathApartRow : OpenClaim := { program := "yteeabfckjjbmkaa", sum := "0e5f3108000125e5f2f00931379b1478b7e6c744081fee1aa8676d85f3a078f0", func := "dioptre/dioptrelaw10.PathApart", spec := "pathApart", unfollowed := true, recurses := true, loops := true, apart := false }
def PathApartSaid : Prop := pathApartRow.holds Try.pinned (OpenSpec.ofChange pathApartSpec)

/-- ITS FALSE NEIGHBOUR: 'it returns false'. Refute it at one input. -/
def pathApartWrong : ChangeSpec := { name := "pathApart", fn := fun _ => fun
  | [d1, d2, d3] => { results := [.lit (.bool false)], args := [d1, d2, d3] }
  | _ => none }
def PathApartWrongFalsely : Prop := pathApartRow.holds Try.pinned (OpenSpec.ofChange pathApartWrong)

/- THE SECOND FORM. 'bulk': how many values and letters a reading holds, each counted each time it is reached (what is shared counts as often as it is met; a slice's spare places count too). A statement '..UptoSaid' is the law's where the arguments, and the package variables that the reading takes, are together of bulk at most 1048576: NARROWER than '..Said'. Prove '..Said' where nothing that the law and all that it calls make is longer than what came in: it says more and counts as full. Else prove '..UptoSaid'. A law counts once. -/
mutual
def uptoBulk {H : Type} : DataW H → Nat
  | .lit (.string bytes) => bytes.length + 1
  | .lit _ => 1
  | .nil => 1
  | .ptr d => uptoBulk d + 1
  | .slice elems spare => uptoBulkAll elems + uptoBulkAll spare + 1
  | .agg parts => uptoBulkAll parts + 1
  | .iface _ d => uptoBulk d + 1
  | .map entries => uptoBulkEntries entries + 1
  | .held _ => 1
def uptoBulkAll {H : Type} : List (DataW H) → Nat
  | [] => 0
  | d :: r => uptoBulk d + uptoBulkAll r
def uptoBulkEntries {H : Type} : List (Lit × DataW H) → Nat
  | [] => 0
  | x :: r => uptoBulkEntry x + uptoBulkEntries r
def uptoBulkEntry {H : Type} : Lit × DataW H → Nat
  | (.string bytes, d) => bytes.length + uptoBulk d + 1
  | (_, d) => uptoBulk d + 1
 end
def uptoSmall : (H : Type) → List (DataW H) → Bool := fun _ ds => decide (uptoBulkAll ds ≤ 1048576)
def OpenSpec.upto (s : _root_.Go.ChangeSpec) : _root_.Go.OpenSpec := { _root_.Go.OpenSpec.ofChange s with cond := some uptoSmall }

/-- 'dioptrelaw08.ValueRight', WHERE WHAT IT READS IS OF BULK AT MOST 1048576: true; the input reads as it did. -/
def valueRightUptoRow : OpenClaim := { program := "yteeabfckjjbmkaa", sum := "0e5f3108000125e5f2f00931379b1478b7e6c744081fee1aa8676d85f3a078f0", func := "dioptre/dioptrelaw08.ValueRight", spec := "valueRight", inPlace := ["slices.overlaps[string]", "slices.overlaps[dioptre/api.Value]"], unfollowed := true, recurses := true, loops := true, apart := false, narrowed := true }
def ValueRightUptoSaid : Prop := valueRightUptoRow.holds Try.pinned (OpenSpec.upto valueRightSpec)

/-- 'dioptrelaw08.ValueParts', WHERE WHAT IT READS IS OF BULK AT MOST 1048576: true; the input reads as it did. -/
def valuePartsUptoRow : OpenClaim := { program := "yteeabfckjjbmkaa", sum := "0e5f3108000125e5f2f00931379b1478b7e6c744081fee1aa8676d85f3a078f0", func := "dioptre/dioptrelaw08.ValueParts", spec := "valueParts", inPlace := ["slices.overlaps[string]", "slices.overlaps[dioptre/api.Value]"], unfollowed := true, recurses := true, loops := true, apart := false, narrowed := true }
def ValuePartsUptoSaid : Prop := valuePartsUptoRow.holds Try.pinned (OpenSpec.upto valuePartsSpec)

/-- 'dioptrelaw09.SchemaRight', WHERE WHAT IT READS IS OF BULK AT MOST 1048576: true; the input reads as it did. -/
def schemaRightUptoRow : OpenClaim := { program := "yteeabfckjjbmkaa", sum := "0e5f3108000125e5f2f00931379b1478b7e6c744081fee1aa8676d85f3a078f0", func := "dioptre/dioptrelaw09.SchemaRight", spec := "schemaRight", unfollowed := true, recurses := true, loops := true, apart := false, narrowed := true }
def SchemaRightUptoSaid : Prop := schemaRightUptoRow.holds Try.pinned (OpenSpec.upto schemaRightSpec)

/-- 'dioptrelaw09.SchemaFits', WHERE WHAT IT READS IS OF BULK AT MOST 1048576: true; the input reads as it did. -/
def schemaFitsUptoRow : OpenClaim := { program := "yteeabfckjjbmkaa", sum := "0e5f3108000125e5f2f00931379b1478b7e6c744081fee1aa8676d85f3a078f0", func := "dioptre/dioptrelaw09.SchemaFits", spec := "schemaFits", unfollowed := true, recurses := true, loops := true, apart := false, narrowed := true }
def SchemaFitsUptoSaid : Prop := schemaFitsUptoRow.holds Try.pinned (OpenSpec.upto schemaFitsSpec)

/-- 'dioptrelaw10.PathTypes', WHERE WHAT IT READS IS OF BULK AT MOST 1048576: true; the input reads as it did. -/
def pathTypesUptoRow : OpenClaim := { program := "yteeabfckjjbmkaa", sum := "0e5f3108000125e5f2f00931379b1478b7e6c744081fee1aa8676d85f3a078f0", func := "dioptre/dioptrelaw10.PathTypes", spec := "pathTypes", unfollowed := true, recurses := true, loops := true, apart := false, narrowed := true }
def PathTypesUptoSaid : Prop := pathTypesUptoRow.holds Try.pinned (OpenSpec.upto pathTypesSpec)

/-- 'dioptrelaw10.PathAll', WHERE WHAT IT READS IS OF BULK AT MOST 1048576: true; the input reads as it did. -/
def pathAllUptoRow : OpenClaim := { program := "yteeabfckjjbmkaa", sum := "0e5f3108000125e5f2f00931379b1478b7e6c744081fee1aa8676d85f3a078f0", func := "dioptre/dioptrelaw10.PathAll", spec := "pathAll", unfollowed := true, recurses := true, loops := true, apart := false, narrowed := true }
def PathAllUptoSaid : Prop := pathAllUptoRow.holds Try.pinned (OpenSpec.upto pathAllSpec)

/-- 'dioptrelaw10.PathBytes', WHERE WHAT IT READS IS OF BULK AT MOST 1048576: true; the input reads as it did. -/
def pathBytesUptoRow : OpenClaim := { program := "yteeabfckjjbmkaa", sum := "0e5f3108000125e5f2f00931379b1478b7e6c744081fee1aa8676d85f3a078f0", func := "dioptre/dioptrelaw10.PathBytes", spec := "pathBytes", unfollowed := true, recurses := true, apart := false, narrowed := true }
def PathBytesUptoSaid : Prop := pathBytesUptoRow.holds Try.pinned (OpenSpec.upto pathBytesSpec)

/-- 'dioptrelaw10.PathApart', WHERE WHAT IT READS IS OF BULK AT MOST 1048576: true; the input reads as it did. -/
def pathApartUptoRow : OpenClaim := { program := "yteeabfckjjbmkaa", sum := "0e5f3108000125e5f2f00931379b1478b7e6c744081fee1aa8676d85f3a078f0", func := "dioptre/dioptrelaw10.PathApart", spec := "pathApart", unfollowed := true, recurses := true, loops := true, apart := false, narrowed := true }
def PathApartUptoSaid : Prop := pathApartUptoRow.holds Try.pinned (OpenSpec.upto pathApartSpec)

end Rows
end Go.Proofs.Yteeabfckjjbmkaa
