/- What the rows' list gives a walk: field's two tables; worlds that meet it. -/
import Derived.Test.YthpbipebpaeagaaDoorCards
import Derived.Test.YthpbipebpaeagaaDoorTie
import Derived.Test.YthpbipebpaeagaaDoorLaidT
import Derived.Test.YthpbipebpaeagaaDoorArgF
import Derived.Test.YthpbipebpaeagaaDoorRoot
import Derived.WalkKit
import Derived.ProofKit
import Derived.OpenShut
import Derived.Deep.DeepHandedRow
namespace Go.Proofs.YthpbipebpaeagaaDoor
set_option maxRecDepth 100000
open Go.ChangeShapes Go.WideShapes Go.ChangeAt Go.RowKit

theorem own : ownKnob Tryd.prog.godebug = none := by kernel_rfl
theorem laidOut : laidOutB Tryd.prog = true := by kernel_rfl
theorem en_named : Tryd.prog.globalNamed "dioptre/field.enough" = some 0 := by kernel_rfl
theorem en_type : (Tryd.prog.globals[0]?).map (·.type) = some 24 := by kernel_rfl
theorem rm_named : Tryd.prog.globalNamed "dioptre/field.rootOfMinus" = some 1 := by kernel_rfl
theorem rm_type : (Tryd.prog.globals[1]?).map (·.type) = some 24 := by kernel_rfl
def enz : List Int := [9007199254740916, 9007199254740988, 9007199254740988, 9007199254740988, 9007199254740988]
def rmz : List Int := [1718705420411056, 234908883556509, 2233514472574048, 2117202627021982, 765476049583133]
theorem en_data : (Rows.laid_dioptre_field_enough : DataW Unit) = Lib.tabData .u64 enz := by rfl
theorem rm_data : (Rows.laid_dioptre_field_rootOfMinus : DataW Unit) = Lib.tabData .u64 rmz := by rfl
theorem en_cells : enz.map (Value.int .u64) = EL enL := rfl
theorem rm_cells : rmz.map (Value.int .u64) = EL rtL := rfl
def LF : List (String × DataW Unit) := [("dioptre/field.enough", Rows.laid_dioptre_field_enough), ("dioptre/field.rootOfMinus", Rows.laid_dioptre_field_rootOfMinus)]
theorem tellsF {W : World} (h : laidMetH Tryd.prog LF W) : Gl W := by
  have h' : laidMet Tryd.prog LF W := h
  have hm : ("dioptre/field.enough", (Rows.laid_dioptre_field_enough : DataW Unit)) ∈ LF := by simp [LF]
  have hn : ("dioptre/field.rootOfMinus", (Rows.laid_dioptre_field_rootOfMinus : DataW Unit)) ∈ LF := by simp [LF]
  rw [en_data] at hm
  rw [rm_data] at hn
  obtain ⟨t, h1⟩ := row_of_laid h' hm en_named en_type Tryd.underlying24 Tryd.underlying23 (by kernel_rfl) (by kernel_rfl) (by decide)
  obtain ⟨t', h2⟩ := row_of_laid h' hn rm_named rm_type Tryd.underlying24 Tryd.underlying23 (by kernel_rfl) (by kernel_rfl) (by decide)
  rw [en_cells] at h1
  rw [rm_cells] at h2
  exact ⟨⟨t, h1⟩, ⟨t', h2⟩⟩
/-- A block with other cells. -/
def reCells (cs : Array Value) : Obj → Obj
  | .cells _ t frozen => .cells cs t frozen
  | o => o
/-- A world that meets the condition: the settled one, the variables' cells laid. -/
noncomputable def laidWorld (os : Os) : World :=
  { World.holding Tryd.prog os ⟨#[], #[], []⟩ with heap := ((World.holding Tryd.prog os ⟨#[], #[], []⟩).heap.modify 0 (reCells #[.int .u64 9007199254740916, .int .u64 9007199254740988, .int .u64 9007199254740988, .int .u64 9007199254740988, .int .u64 9007199254740988])).modify 1 (reCells #[.int .u64 1718705420411056, .int .u64 234908883556509, .int .u64 2233514472574048, .int .u64 2117202627021982, .int .u64 765476049583133]) }
theorem laidWorld_metF (os : Os) (args : Array Value) : laidMetH Tryd.prog LF ((laidWorld os).forCall (fun _ _ => 0) ⟨#[], args, []⟩).memory :=
  laidMetH_of_parts (laidMet_of_run' 8 (by kernel_rfl) (by kernel_rfl)) (by kernel_rfl)

end Go.Proofs.YthpbipebpaeagaaDoor
