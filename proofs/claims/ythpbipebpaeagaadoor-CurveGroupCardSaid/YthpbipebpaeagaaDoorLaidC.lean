/- What the rows' list gives a walk: field's two tables, curve's three; worlds that meet it. -/
import Derived.Test.YthpbipebpaeagaaDoorLaidF
import Derived.Test.YthpbipebpaeagaaDoorPt
namespace Go.Proofs.YthpbipebpaeagaaDoor
set_option maxRecDepth 100000
open Go.ChangeShapes Go.WideShapes Go.ChangeAt Go.RowKit

theorem cd_named : Tryd.prog.globalNamed "dioptre/curve.d" = some 2 := by kernel_rfl
theorem cd_type : (Tryd.prog.globals[2]?).map (·.type) = some 22 := by kernel_rfl
def cdz : List Int := [163, 120, 89, 19, 202, 77, 235, 117, 171, 216, 65, 65, 77, 10, 112, 0, 152, 232, 121, 119, 121, 64, 199, 140, 115, 254, 111, 43, 238, 108, 3, 82]
theorem cd_data : (Rows.laid_dioptre_curve_d : DataW Unit) = Lib.tabData .u8 cdz := by rfl
theorem cd_cells : cdz.map (Value.int .u8) = By dN 32 := by kernel_rfl
theorem cbaseX_named : Tryd.prog.globalNamed "dioptre/curve.baseX" = some 3 := by kernel_rfl
theorem cbaseX_type : (Tryd.prog.globals[3]?).map (·.type) = some 22 := by kernel_rfl
def cbaseXz : List Int := [26, 213, 37, 143, 96, 45, 86, 201, 178, 167, 37, 149, 96, 199, 44, 105, 92, 220, 214, 253, 49, 226, 164, 192, 254, 83, 110, 205, 211, 54, 105, 33]
theorem cbaseX_data : (Rows.laid_dioptre_curve_baseX : DataW Unit) = Lib.tabData .u8 cbaseXz := by rfl
theorem cbaseX_cells : cbaseXz.map (Value.int .u8) = By bxN 32 := by kernel_rfl
theorem cbaseY_named : Tryd.prog.globalNamed "dioptre/curve.baseY" = some 4 := by kernel_rfl
theorem cbaseY_type : (Tryd.prog.globals[4]?).map (·.type) = some 22 := by kernel_rfl
def cbaseYz : List Int := [88, 102, 102, 102, 102, 102, 102, 102, 102, 102, 102, 102, 102, 102, 102, 102, 102, 102, 102, 102, 102, 102, 102, 102, 102, 102, 102, 102, 102, 102, 102, 102]
theorem cbaseY_data : (Rows.laid_dioptre_curve_baseY : DataW Unit) = Lib.tabData .u8 cbaseYz := by rfl
theorem cbaseY_cells : cbaseYz.map (Value.int .u8) = By byN 32 := by kernel_rfl
def LC : List (String × DataW Unit) := [("dioptre/field.enough", Rows.laid_dioptre_field_enough), ("dioptre/field.rootOfMinus", Rows.laid_dioptre_field_rootOfMinus), ("dioptre/curve.d", Rows.laid_dioptre_curve_d), ("dioptre/curve.baseX", Rows.laid_dioptre_curve_baseX), ("dioptre/curve.baseY", Rows.laid_dioptre_curve_baseY)]
theorem tellsC {W : World} (h : laidMetH Tryd.prog LC W) : Gx W := by
  have h' : laidMet Tryd.prog LC W := h
  have m1 : ("dioptre/field.enough", (Rows.laid_dioptre_field_enough : DataW Unit)) ∈ LC := by simp [LC]
  have m2 : ("dioptre/field.rootOfMinus", (Rows.laid_dioptre_field_rootOfMinus : DataW Unit)) ∈ LC := by simp [LC]
  rw [en_data] at m1
  rw [rm_data] at m2
  obtain ⟨t1, h1⟩ := row_of_laid h' m1 en_named en_type Tryd.underlying24 Tryd.underlying23 (by kernel_rfl) (by kernel_rfl) (by decide)
  obtain ⟨t2, h2⟩ := row_of_laid h' m2 rm_named rm_type Tryd.underlying24 Tryd.underlying23 (by kernel_rfl) (by kernel_rfl) (by decide)
  rw [en_cells] at h1
  rw [rm_cells] at h2
  have m3 : ("dioptre/curve.d", (Rows.laid_dioptre_curve_d : DataW Unit)) ∈ LC := by simp [LC]
  rw [cd_data] at m3
  obtain ⟨t3, h3⟩ := row_of_laid h' m3 cd_named cd_type Tryd.underlying22 Tryd.underlying5 (by kernel_rfl) (by kernel_rfl) (by decide)
  rw [cd_cells] at h3
  have m4 : ("dioptre/curve.baseX", (Rows.laid_dioptre_curve_baseX : DataW Unit)) ∈ LC := by simp [LC]
  rw [cbaseX_data] at m4
  obtain ⟨t4, h4⟩ := row_of_laid h' m4 cbaseX_named cbaseX_type Tryd.underlying22 Tryd.underlying5 (by kernel_rfl) (by kernel_rfl) (by decide)
  rw [cbaseX_cells] at h4
  have m5 : ("dioptre/curve.baseY", (Rows.laid_dioptre_curve_baseY : DataW Unit)) ∈ LC := by simp [LC]
  rw [cbaseY_data] at m5
  obtain ⟨t5, h5⟩ := row_of_laid h' m5 cbaseY_named cbaseY_type Tryd.underlying22 Tryd.underlying5 (by kernel_rfl) (by kernel_rfl) (by decide)
  rw [cbaseY_cells] at h5
  exact ⟨⟨⟨t1, h1⟩, ⟨t2, h2⟩⟩, ⟨t3, h3⟩, ⟨t4, h4⟩, ⟨t5, h5⟩⟩
/-- A world that meets the condition: the settled one, the five variables' cells laid. -/
noncomputable def laidWorldC (os : Os) : World :=
  { World.holding Tryd.prog os ⟨#[], #[], []⟩ with heap := ((((((World.holding Tryd.prog os ⟨#[], #[], []⟩).heap.modify 0 (reCells #[.int .u64 9007199254740916, .int .u64 9007199254740988, .int .u64 9007199254740988, .int .u64 9007199254740988, .int .u64 9007199254740988])).modify 1 (reCells #[.int .u64 1718705420411056, .int .u64 234908883556509, .int .u64 2233514472574048, .int .u64 2117202627021982, .int .u64 765476049583133])).modify 2 (reCells #[.int .u8 163, .int .u8 120, .int .u8 89, .int .u8 19, .int .u8 202, .int .u8 77, .int .u8 235, .int .u8 117, .int .u8 171, .int .u8 216, .int .u8 65, .int .u8 65, .int .u8 77, .int .u8 10, .int .u8 112, .int .u8 0, .int .u8 152, .int .u8 232, .int .u8 121, .int .u8 119, .int .u8 121, .int .u8 64, .int .u8 199, .int .u8 140, .int .u8 115, .int .u8 254, .int .u8 111, .int .u8 43, .int .u8 238, .int .u8 108, .int .u8 3, .int .u8 82])).modify 3 (reCells #[.int .u8 26, .int .u8 213, .int .u8 37, .int .u8 143, .int .u8 96, .int .u8 45, .int .u8 86, .int .u8 201, .int .u8 178, .int .u8 167, .int .u8 37, .int .u8 149, .int .u8 96, .int .u8 199, .int .u8 44, .int .u8 105, .int .u8 92, .int .u8 220, .int .u8 214, .int .u8 253, .int .u8 49, .int .u8 226, .int .u8 164, .int .u8 192, .int .u8 254, .int .u8 83, .int .u8 110, .int .u8 205, .int .u8 211, .int .u8 54, .int .u8 105, .int .u8 33])).modify 4 (reCells #[.int .u8 88, .int .u8 102, .int .u8 102, .int .u8 102, .int .u8 102, .int .u8 102, .int .u8 102, .int .u8 102, .int .u8 102, .int .u8 102, .int .u8 102, .int .u8 102, .int .u8 102, .int .u8 102, .int .u8 102, .int .u8 102, .int .u8 102, .int .u8 102, .int .u8 102, .int .u8 102, .int .u8 102, .int .u8 102, .int .u8 102, .int .u8 102, .int .u8 102, .int .u8 102, .int .u8 102, .int .u8 102, .int .u8 102, .int .u8 102, .int .u8 102, .int .u8 102])) }
theorem laidWorld_metC (os : Os) (args : Array Value) : laidMetH Tryd.prog LC ((laidWorldC os).forCall (fun _ _ => 0) ⟨#[], args, []⟩).memory :=
  laidMetH_of_parts (laidMet_of_run' 34 (by kernel_rfl) (by kernel_rfl)) (by kernel_rfl)
def LG : List (String × DataW Unit) := [("dioptre/field.enough", Rows.laid_dioptre_field_enough), ("dioptre/curve.d", Rows.laid_dioptre_curve_d), ("dioptre/curve.baseX", Rows.laid_dioptre_curve_baseX), ("dioptre/curve.baseY", Rows.laid_dioptre_curve_baseY)]
theorem tellsG {W : World} (h : laidMetH Tryd.prog LG W) : Gc W := by
  have h' : laidMet Tryd.prog LG W := h
  have m1 : ("dioptre/field.enough", (Rows.laid_dioptre_field_enough : DataW Unit)) ∈ LG := by simp [LG]
  rw [en_data] at m1
  obtain ⟨t1, h1⟩ := row_of_laid h' m1 en_named en_type Tryd.underlying24 Tryd.underlying23 (by kernel_rfl) (by kernel_rfl) (by decide)
  rw [en_cells] at h1
  have m3 : ("dioptre/curve.d", (Rows.laid_dioptre_curve_d : DataW Unit)) ∈ LG := by simp [LG]
  rw [cd_data] at m3
  obtain ⟨t3, h3⟩ := row_of_laid h' m3 cd_named cd_type Tryd.underlying22 Tryd.underlying5 (by kernel_rfl) (by kernel_rfl) (by decide)
  rw [cd_cells] at h3
  have m4 : ("dioptre/curve.baseX", (Rows.laid_dioptre_curve_baseX : DataW Unit)) ∈ LG := by simp [LG]
  rw [cbaseX_data] at m4
  obtain ⟨t4, h4⟩ := row_of_laid h' m4 cbaseX_named cbaseX_type Tryd.underlying22 Tryd.underlying5 (by kernel_rfl) (by kernel_rfl) (by decide)
  rw [cbaseX_cells] at h4
  have m5 : ("dioptre/curve.baseY", (Rows.laid_dioptre_curve_baseY : DataW Unit)) ∈ LG := by simp [LG]
  rw [cbaseY_data] at m5
  obtain ⟨t5, h5⟩ := row_of_laid h' m5 cbaseY_named cbaseY_type Tryd.underlying22 Tryd.underlying5 (by kernel_rfl) (by kernel_rfl) (by decide)
  rw [cbaseY_cells] at h5
  exact ⟨⟨⟨t1, h1⟩⟩, ⟨t3, h3⟩, ⟨t4, h4⟩, ⟨t5, h5⟩⟩
theorem laidWorld_metG (os : Os) (args : Array Value) : laidMetH Tryd.prog LG ((laidWorldC os).forCall (fun _ _ => 0) ⟨#[], args, []⟩).memory :=
  laidMetH_of_parts (laidMet_of_run' 34 (by kernel_rfl) (by kernel_rfl)) (by kernel_rfl)

end Go.Proofs.YthpbipebpaeagaaDoor
