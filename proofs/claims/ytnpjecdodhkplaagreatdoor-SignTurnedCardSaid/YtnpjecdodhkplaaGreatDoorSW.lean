import Derived.Deep.DeepHandedRow
import Derived.Test.YtnpjecdodhkplaaGreatDoorCards
import Derived.Test.YtnpjecdodhkplaaGreatDoorTie
import Derived.Test.YtnpjecdodhkplaaGreatDoorSP
namespace Go.Proofs.YtnpjecdodhkplaaGreatDoor
set_option maxRecDepth 100000
open Go.RowKit
section
open Go.ChangeShapes Go.WideShapes Go.ChangeAt Go.RowKit
theorem own : ownKnob Tryz.prog.godebug = none := by kernel_rfl
theorem laidOut : laidOutB Tryz.prog = true := by kernel_rfl
theorem en_named : Tryz.prog.globalNamed "dioptre/field.enough" = some 6 := by kernel_rfl
theorem en_type : (Tryz.prog.globals[6]?).map (·.type) = some 60 := by kernel_rfl
def enz : List Int := [9007199254740916, 9007199254740988, 9007199254740988, 9007199254740988, 9007199254740988]
theorem en_data : (Rows.laid_dioptre_field_enough : DataW Unit) = Lib.tabData .u64 enz := by rfl
theorem en_cells : enz.map (Value.int .u64) = EL enL := by kernel_rfl
theorem rm_named : Tryz.prog.globalNamed "dioptre/field.rootOfMinus" = some 5 := by kernel_rfl
theorem rm_type : (Tryz.prog.globals[5]?).map (·.type) = some 60 := by kernel_rfl
def rmz : List Int := [1718705420411056, 234908883556509, 2233514472574048, 2117202627021982, 765476049583133]
theorem rm_data : (Rows.laid_dioptre_field_rootOfMinus : DataW Unit) = Lib.tabData .u64 rmz := by rfl
theorem rm_cells : rmz.map (Value.int .u64) = EL rtL := by kernel_rfl
theorem cd_named : Tryz.prog.globalNamed "dioptre/curve.d" = some 3 := by kernel_rfl
theorem cd_type : (Tryz.prog.globals[3]?).map (·.type) = some 22 := by kernel_rfl
def cdz : List Int := [163, 120, 89, 19, 202, 77, 235, 117, 171, 216, 65, 65, 77, 10, 112, 0, 152, 232, 121, 119, 121, 64, 199, 140, 115, 254, 111, 43, 238, 108, 3, 82]
theorem cd_data : (Rows.laid_dioptre_curve_d : DataW Unit) = Lib.tabData .u8 cdz := by rfl
theorem cd_cells : cdz.map (Value.int .u8) = By dN 32 := by kernel_rfl
theorem cx_named : Tryz.prog.globalNamed "dioptre/curve.baseX" = some 0 := by kernel_rfl
theorem cx_type : (Tryz.prog.globals[0]?).map (·.type) = some 22 := by kernel_rfl
def cxz : List Int := [26, 213, 37, 143, 96, 45, 86, 201, 178, 167, 37, 149, 96, 199, 44, 105, 92, 220, 214, 253, 49, 226, 164, 192, 254, 83, 110, 205, 211, 54, 105, 33]
theorem cx_data : (Rows.laid_dioptre_curve_baseX : DataW Unit) = Lib.tabData .u8 cxz := by rfl
theorem cx_cells : cxz.map (Value.int .u8) = By bxN 32 := by kernel_rfl
theorem cy_named : Tryz.prog.globalNamed "dioptre/curve.baseY" = some 1 := by kernel_rfl
theorem cy_type : (Tryz.prog.globals[1]?).map (·.type) = some 22 := by kernel_rfl
def cyz : List Int := [88, 102, 102, 102, 102, 102, 102, 102, 102, 102, 102, 102, 102, 102, 102, 102, 102, 102, 102, 102, 102, 102, 102, 102, 102, 102, 102, 102, 102, 102, 102, 102]
theorem cy_data : (Rows.laid_dioptre_curve_baseY : DataW Unit) = Lib.tabData .u8 cyz := by rfl
theorem cy_cells : cyz.map (Value.int .u8) = By byN 32 := by kernel_rfl
theorem oq_named : Tryz.prog.globalNamed "dioptre/order.q" = some 2 := by kernel_rfl
theorem oq_type : (Tryz.prog.globals[2]?).map (·.type) = some 103 := by kernel_rfl
def oqz : List Int := [6346243789798364141, 1503914060200516822, 0, 1152921504606846976, 0, 0, 0, 0]
theorem oq_data : (Rows.laid_dioptre_order_q : DataW Unit) = Lib.tabData .u64 oqz := by rfl
theorem oq_cells : oqz.map (Value.int .u64) = Nm qq := by 
 unfold Nm
 rw [wds_qq]
 rfl
theorem rd_named : Tryz.prog.globalNamed "dioptre/digest.rounds" = some 7 := by kernel_rfl
theorem rd_type : (Tryz.prog.globals[7]?).map (·.type) = some 164 := by kernel_rfl
def rdz : List Int := [4794697086780616226, 8158064640168781261, 13096744586834688815, 16840607885511220156, 4131703408338449720, 6480981068601479193, 10538285296894168987, 12329834152419229976, 15566598209576043074, 1334009975649890238, 2608012711638119052, 6128411473006802146, 8268148722764581231, 9286055187155687089, 11230858885718282805, 13951009754708518548, 16472876342353939154, 17275323862435702243, 1135362057144423861, 2597628984639134821, 3308224258029322869, 5365058923640841347, 6679025012923562964, 8573033837759648693, 10970295158949994411, 12119686244451234320, 12683024718118986047, 13788192230050041572, 14330467153632333762, 15395433587784984357, 489312712824947311, 1452737877330783856, 2861767655752347644, 3322285676063803686, 5560940570517711597, 5996557281743188959, 7280758554555802590, 8532644243296465576, 9350256976987008742, 10552545826968843579, 11727347734174303076, 12113106623233404929, 14000437183269869457, 14369950271660146224, 15101387698204529176, 15463397548674623760, 17586052441742319658, 1182934255886127544, 1847814050463011016, 2177327727835720531, 2830643537854262169, 3796741975233480872, 4115178125766777443, 5681478168544905931, 6601373596472566643, 7507060721942968483, 8399075790359081724, 8693463985226723168, 9568029438360202098, 10144078919501101548, 10430055236837252648, 11840083180663258601, 13761210420658862357, 14299343276471374635, 14566680578165727644, 15097957966210449927, 16922976911328602910, 17689382322260857208, 500013540394364858, 748580250866718886, 1242879168328830382, 1977374033974150939, 2944078676154940804, 3659926193048069267, 4368137639120453308, 4836135668995329356, 5532061633213252278, 6448918945643986474, 6902733635092675308, 7801388544844847127]
theorem rd_data : (Rows.laid_dioptre_digest_rounds : DataW Unit) = Lib.tabData .u64 rdz := by rfl
theorem st_named : Tryz.prog.globalNamed "dioptre/digest.starts" = some 4 := by kernel_rfl
theorem st_type : (Tryz.prog.globals[4]?).map (·.type) = some 102 := by kernel_rfl
def stz : List Int := [7640891576956012808, 13503953896175478587, 4354685564936845355, 11912009170470909681, 5840696475078001361, 11170449401992604703, 2270897969802886507, 6620516959819538809]
theorem st_data : (Rows.laid_dioptre_digest_starts : DataW Unit) = Lib.tabData .u64 stz := by rfl
theorem rd_eq : rdz = k64.map (fun x : Nat => (x : Int)) := by rfl
theorem st_eq : stz = s64.map (fun x : Nat => (x : Int)) := by rfl
def LS : List (String × DataW Unit) := [("dioptre/field.enough", Rows.laid_dioptre_field_enough), ("dioptre/field.rootOfMinus", Rows.laid_dioptre_field_rootOfMinus), ("dioptre/curve.d", Rows.laid_dioptre_curve_d), ("dioptre/curve.baseX", Rows.laid_dioptre_curve_baseX), ("dioptre/curve.baseY", Rows.laid_dioptre_curve_baseY), ("dioptre/order.q", Rows.laid_dioptre_order_q), ("dioptre/digest.rounds", Rows.laid_dioptre_digest_rounds), ("dioptre/digest.starts", Rows.laid_dioptre_digest_starts)]
theorem tellsS {W : World} (h : laidMetH Tryz.prog LS W) : Sv W := by
 have h' : laidMet Tryz.prog LS W := h
 have m_en : ("dioptre/field.enough", (Rows.laid_dioptre_field_enough : DataW Unit)) ∈ LS := by simp [LS]
 rw [en_data] at m_en
 obtain ⟨t_en, h_en⟩ := row_of_laid h' m_en en_named en_type Tryz.underlying60 Tryz.underlying59 (by kernel_rfl) (by kernel_rfl) (by decide)
 rw [en_cells] at h_en
 have m_rm : ("dioptre/field.rootOfMinus", (Rows.laid_dioptre_field_rootOfMinus : DataW Unit)) ∈ LS := by simp [LS]
 rw [rm_data] at m_rm
 obtain ⟨t_rm, h_rm⟩ := row_of_laid h' m_rm rm_named rm_type Tryz.underlying60 Tryz.underlying59 (by kernel_rfl) (by kernel_rfl) (by decide)
 rw [rm_cells] at h_rm
 have m_cd : ("dioptre/curve.d", (Rows.laid_dioptre_curve_d : DataW Unit)) ∈ LS := by simp [LS]
 rw [cd_data] at m_cd
 obtain ⟨t_cd, h_cd⟩ := row_of_laid h' m_cd cd_named cd_type Tryz.underlying22 Tryz.underlying5 (by kernel_rfl) (by kernel_rfl) (by decide)
 rw [cd_cells] at h_cd
 have m_cx : ("dioptre/curve.baseX", (Rows.laid_dioptre_curve_baseX : DataW Unit)) ∈ LS := by simp [LS]
 rw [cx_data] at m_cx
 obtain ⟨t_cx, h_cx⟩ := row_of_laid h' m_cx cx_named cx_type Tryz.underlying22 Tryz.underlying5 (by kernel_rfl) (by kernel_rfl) (by decide)
 rw [cx_cells] at h_cx
 have m_cy : ("dioptre/curve.baseY", (Rows.laid_dioptre_curve_baseY : DataW Unit)) ∈ LS := by simp [LS]
 rw [cy_data] at m_cy
 obtain ⟨t_cy, h_cy⟩ := row_of_laid h' m_cy cy_named cy_type Tryz.underlying22 Tryz.underlying5 (by kernel_rfl) (by kernel_rfl) (by decide)
 rw [cy_cells] at h_cy
 have m_oq : ("dioptre/order.q", (Rows.laid_dioptre_order_q : DataW Unit)) ∈ LS := by simp [LS]
 rw [oq_data] at m_oq
 obtain ⟨t_oq, h_oq⟩ := row_of_laid h' m_oq oq_named oq_type Tryz.underlying103 Tryz.underlying59 (by kernel_rfl) (by kernel_rfl) (by decide)
 rw [oq_cells] at h_oq
 have m_rd : ("dioptre/digest.rounds", (Rows.laid_dioptre_digest_rounds : DataW Unit)) ∈ LS := by simp [LS]
 rw [rd_data] at m_rd
 obtain ⟨c_rd, t_rd, h_rd, i_rd⟩ := table_of_laid h' m_rd rd_named rd_type Tryz.underlying164 Tryz.underlying59 (by kernel_rfl) (by kernel_rfl) (by decide)
 have m_st : ("dioptre/digest.starts", (Rows.laid_dioptre_digest_starts : DataW Unit)) ∈ LS := by simp [LS]
 rw [st_data] at m_st
 obtain ⟨c_st, t_st, h_st, i_st⟩ := table_of_laid h' m_st st_named st_type Tryz.underlying102 Tryz.underlying59 (by kernel_rfl) (by kernel_rfl) (by decide)
 refine ⟨⟨⟨⟨t_en, h_en⟩, ⟨t_rm, h_rm⟩⟩, ⟨t_cd, h_cd⟩, ⟨t_cx, h_cx⟩, ⟨t_cy, h_cy⟩⟩, ⟨t_oq, h_oq⟩, ⟨c_rd, t_rd, h_rd, fun k hk => ?_⟩, ⟨c_st, t_st, h_st, fun k hk => ?_⟩⟩
 ·have hk2 : k < k64.length := by rw [k64_len]; exact hk
  rw [i_rd k (by rw [rd_eq, List.length_map]; exact hk2), rd_eq, List.getD, List.getElem?_map, List.getElem?_eq_getElem hk2, List.getD, List.getElem?_eq_getElem hk2]
  rfl
 ·have hk2 : k < s64.length := hk
  rw [i_st k (by rw [st_eq, List.length_map]; exact hk2), st_eq, List.getD, List.getElem?_map, List.getElem?_eq_getElem hk2, List.getD, List.getElem?_eq_getElem hk2]
  rfl
def reCells (cs : Array Value) : Obj → Obj
 | .cells _ t frozen => .cells cs t frozen
 | o => o
noncomputable def laidWorld (os : Os) : World :=
 { World.holding Tryz.prog os ⟨#[], #[], []⟩ with heap := (((((((((World.holding Tryz.prog os ⟨#[], #[], []⟩).heap.modify 6 (reCells #[.int .u64 9007199254740916, .int .u64 9007199254740988, .int .u64 9007199254740988, .int .u64 9007199254740988, .int .u64 9007199254740988])).modify 5 (reCells #[.int .u64 1718705420411056, .int .u64 234908883556509, .int .u64 2233514472574048, .int .u64 2117202627021982, .int .u64 765476049583133])).modify 3 (reCells #[.int .u8 163, .int .u8 120, .int .u8 89, .int .u8 19, .int .u8 202, .int .u8 77, .int .u8 235, .int .u8 117, .int .u8 171, .int .u8 216, .int .u8 65, .int .u8 65, .int .u8 77, .int .u8 10, .int .u8 112, .int .u8 0, .int .u8 152, .int .u8 232, .int .u8 121, .int .u8 119, .int .u8 121, .int .u8 64, .int .u8 199, .int .u8 140, .int .u8 115, .int .u8 254, .int .u8 111, .int .u8 43, .int .u8 238, .int .u8 108, .int .u8 3, .int .u8 82])).modify 0 (reCells #[.int .u8 26, .int .u8 213, .int .u8 37, .int .u8 143, .int .u8 96, .int .u8 45, .int .u8 86, .int .u8 201, .int .u8 178, .int .u8 167, .int .u8 37, .int .u8 149, .int .u8 96, .int .u8 199, .int .u8 44, .int .u8 105, .int .u8 92, .int .u8 220, .int .u8 214, .int .u8 253, .int .u8 49, .int .u8 226, .int .u8 164, .int .u8 192, .int .u8 254, .int .u8 83, .int .u8 110, .int .u8 205, .int .u8 211, .int .u8 54, .int .u8 105, .int .u8 33])).modify 1 (reCells #[.int .u8 88, .int .u8 102, .int .u8 102, .int .u8 102, .int .u8 102, .int .u8 102, .int .u8 102, .int .u8 102, .int .u8 102, .int .u8 102, .int .u8 102, .int .u8 102, .int .u8 102, .int .u8 102, .int .u8 102, .int .u8 102, .int .u8 102, .int .u8 102, .int .u8 102, .int .u8 102, .int .u8 102, .int .u8 102, .int .u8 102, .int .u8 102, .int .u8 102, .int .u8 102, .int .u8 102, .int .u8 102, .int .u8 102, .int .u8 102, .int .u8 102, .int .u8 102])).modify 2 (reCells #[.int .u64 6346243789798364141, .int .u64 1503914060200516822, .int .u64 0, .int .u64 1152921504606846976, .int .u64 0, .int .u64 0, .int .u64 0, .int .u64 0])).modify 7 (reCells #[.int .u64 4794697086780616226, .int .u64 8158064640168781261, .int .u64 13096744586834688815, .int .u64 16840607885511220156, .int .u64 4131703408338449720, .int .u64 6480981068601479193, .int .u64 10538285296894168987, .int .u64 12329834152419229976, .int .u64 15566598209576043074, .int .u64 1334009975649890238, .int .u64 2608012711638119052, .int .u64 6128411473006802146, .int .u64 8268148722764581231, .int .u64 9286055187155687089, .int .u64 11230858885718282805, .int .u64 13951009754708518548, .int .u64 16472876342353939154, .int .u64 17275323862435702243, .int .u64 1135362057144423861, .int .u64 2597628984639134821, .int .u64 3308224258029322869, .int .u64 5365058923640841347, .int .u64 6679025012923562964, .int .u64 8573033837759648693, .int .u64 10970295158949994411, .int .u64 12119686244451234320, .int .u64 12683024718118986047, .int .u64 13788192230050041572, .int .u64 14330467153632333762, .int .u64 15395433587784984357, .int .u64 489312712824947311, .int .u64 1452737877330783856, .int .u64 2861767655752347644, .int .u64 3322285676063803686, .int .u64 5560940570517711597, .int .u64 5996557281743188959, .int .u64 7280758554555802590, .int .u64 8532644243296465576, .int .u64 9350256976987008742, .int .u64 10552545826968843579, .int .u64 11727347734174303076, .int .u64 12113106623233404929, .int .u64 14000437183269869457, .int .u64 14369950271660146224, .int .u64 15101387698204529176, .int .u64 15463397548674623760, .int .u64 17586052441742319658, .int .u64 1182934255886127544, .int .u64 1847814050463011016, .int .u64 2177327727835720531, .int .u64 2830643537854262169, .int .u64 3796741975233480872, .int .u64 4115178125766777443, .int .u64 5681478168544905931, .int .u64 6601373596472566643, .int .u64 7507060721942968483, .int .u64 8399075790359081724, .int .u64 8693463985226723168, .int .u64 9568029438360202098, .int .u64 10144078919501101548, .int .u64 10430055236837252648, .int .u64 11840083180663258601, .int .u64 13761210420658862357, .int .u64 14299343276471374635, .int .u64 14566680578165727644, .int .u64 15097957966210449927, .int .u64 16922976911328602910, .int .u64 17689382322260857208, .int .u64 500013540394364858, .int .u64 748580250866718886, .int .u64 1242879168328830382, .int .u64 1977374033974150939, .int .u64 2944078676154940804, .int .u64 3659926193048069267, .int .u64 4368137639120453308, .int .u64 4836135668995329356, .int .u64 5532061633213252278, .int .u64 6448918945643986474, .int .u64 6902733635092675308, .int .u64 7801388544844847127])).modify 4 (reCells #[.int .u64 7640891576956012808, .int .u64 13503953896175478587, .int .u64 4354685564936845355, .int .u64 11912009170470909681, .int .u64 5840696475078001361, .int .u64 11170449401992604703, .int .u64 2270897969802886507, .int .u64 6620516959819538809])) }
theorem laidWorld_metS (os : Os) (args : Array Value) : laidMetH Tryz.prog LS ((laidWorld os).forCall (fun _ _ => 0) ⟨#[], args, []⟩).memory :=
 laidMetH_of_parts (laidMet_of_run' 84 (by kernel_rfl) (by kernel_rfl)) (by kernel_rfl)
end
end Go.Proofs.YtnpjecdodhkplaaGreatDoor
