/- What the rows' lists give a walk: the constants' blocks, the variable that holds the type of errors; and worlds that meet them. -/
import Derived.Test.YtcdfbcpcgkcojaaDoorCards
import Derived.Test.YtcdfbcpcgkcojaaDoorTie
import Derived.Test.YtcdfbcpcgkcojaaDoorLaidT
import Derived.Test.YtcdfbcpcgkcojaaDoorStart32
import Derived.Test.YtcdfbcpcgkcojaaDoorStart64
import Derived.Test.YtcdfbcpcgkcojaaDoorAsE
import Derived.WalkKit
import Derived.ProofKit
import Derived.OpenShut
import Derived.Deep.DeepHandedRow
namespace Go.Proofs.YtcdfbcpcgkcojaaDoor
set_option maxRecDepth 100000
open Go.ChangeShapes Go.WideShapes Go.ChangeAt Go.RowKit

theorem own : ownKnob Tryd.prog.godebug = none := by kernel_rfl
theorem laidOut : laidOutB Tryd.prog = true := by kernel_rfl
theorem et_named : Tryd.prog.globalNamed "errors.errorType" = some 1 := by kernel_rfl
theorem rd_named : Tryd.prog.globalNamed "dioptre/digest.rounds" = some 2 := by kernel_rfl
theorem st_named : Tryd.prog.globalNamed "dioptre/digest.starts" = some 0 := by kernel_rfl
theorem rd_type : (Tryd.prog.globals[2]?).map (·.type) = some 97 := by kernel_rfl
theorem st_type : (Tryd.prog.globals[0]?).map (·.type) = some 55 := by kernel_rfl
theorem rt_named : (Tryd.prog.cutTypes.find? (·.1 == "internal/reflectlite.rtype")).map (·.2) = some 103 := by kernel_rfl
theorem et_row : ((List.range 146).filter fun t => Tryd.prog.rowNamed t [101, 114, 114, 111, 114]) = [42] := by kernel_rfl
theorem ty_size : Tryd.prog.types.size = 146 := by kernel_rfl
theorem rd_data : (Rows.laid_dioptre_digest_rounds : DataW Unit) = Lib.tabData .u64 (k32.map fun x : Nat => ((x : Nat) : Int)) := by rfl
theorem st_data : (Rows.laid_dioptre_digest_starts : DataW Unit) = Lib.tabData .u64 (s32.map fun x : Nat => ((x : Nat) : Int)) := by rfl
theorem k64_eq : k64 = k32 := rfl
theorem s64_eq : s64 = s32 := rfl

theorem handle_tells {W : World} (h : handlesMet Tryd.prog [("errors.errorType", Rows.laid_errors_errorType)] W) : ErrTy W := by
  obtain ⟨name, u, ty, e1, e2, e3, e4, e5⟩ := h _ (List.mem_singleton.2 rfl)
  have en : name = [101, 114, 114, 111, 114] := (Option.some.inj e1).symm
  subst en
  obtain rfl := Option.some.inj (rt_named.symm.trans e2)
  have hm : ty ∈ (List.range 146).filter fun t => Tryd.prog.rowNamed t [101, 114, 114, 111, 114] := List.mem_filter.2 ⟨List.mem_range.2 (by rw [← ty_size]; exact e3), e4⟩
  rw [et_row] at hm
  obtain rfl := List.mem_singleton.1 hm
  have hh : typeHandle Tryd.prog 42 = .pointer (some ⟨4, 42, none⟩) := by kernel_rfl
  rw [hh] at e5
  have e6 := World.var?_cell et_named e5 0
  unfold ErrTy
  simpa using e6
theorem ks_tells {W : World} {l : List (String × DataW Unit)} (h : laidMet Tryd.prog l W) (hm : ("dioptre/digest.rounds", (Rows.laid_dioptre_digest_rounds : DataW Unit)) ∈ l) : Ks32 W := by
  rw [rd_data] at hm
  obtain ⟨c, t, h1, h2⟩ := table_of_laid h hm rd_named rd_type (by rfl) Tryd.underlying51 (by kernel_rfl) (by kernel_rfl) (by decide)
  refine ⟨c, t, h1, fun k hk => ?_⟩
  have hk2 : k < k32.length := by rw [k32_len]; exact hk
  rw [h2 k (by rw [List.length_map]; exact hk2), List.getD, List.getElem?_map, List.getElem?_eq_getElem hk2, List.getD, List.getElem?_eq_getElem hk2]
  rfl
theorem ss_tells {W : World} {l : List (String × DataW Unit)} (h : laidMet Tryd.prog l W) (hm : ("dioptre/digest.starts", (Rows.laid_dioptre_digest_starts : DataW Unit)) ∈ l) : Ss32 W := by
  rw [st_data] at hm
  obtain ⟨c, t, h1, h2⟩ := table_of_laid h hm st_named st_type (by rfl) Tryd.underlying51 (by kernel_rfl) (by kernel_rfl) (by decide)
  refine ⟨c, t, h1, fun k hk => ?_⟩
  have hk2 : k < s32.length := hk
  rw [h2 k (by rw [List.length_map]; exact hk2), List.getD, List.getElem?_map, List.getElem?_eq_getElem hk2, List.getD, List.getElem?_eq_getElem hk2]
  rfl
theorem Ks32.great {w : World} (h : Ks32 w) : Ks64 w := h
theorem Ss32.great {w : World} (h : Ss32 w) : Ss64 w := h

def L3 : List (String × DataW Unit) := [("errors.errorType", Rows.laid_errors_errorType), ("dioptre/digest.rounds", Rows.laid_dioptre_digest_rounds), ("dioptre/digest.starts", Rows.laid_dioptre_digest_starts)]
def L2 : List (String × DataW Unit) := [("dioptre/digest.rounds", Rows.laid_dioptre_digest_rounds), ("dioptre/digest.starts", Rows.laid_dioptre_digest_starts)]
theorem tells3 {W : World} (h : laidMetH Tryd.prog L3 W) : Ks32 W ∧ Ss32 W ∧ ErrTy W := by
  have h' : laidMet Tryd.prog L2 W ∧ handlesMet Tryd.prog [("errors.errorType", Rows.laid_errors_errorType)] W := h
  exact ⟨ks_tells h'.1 (by simp [L2]), ss_tells h'.1 (by simp [L2]), handle_tells h'.2⟩
theorem tells2 {W : World} (h : laidMetH Tryd.prog L2 W) : Ks32 W ∧ Ss32 W := by
  have h' : laidMet Tryd.prog L2 W := h
  exact ⟨ks_tells h' (by simp [L2]), ss_tells h' (by simp [L2])⟩

/-- A block with other cells. -/
def reCells (cs : Array Value) : Obj → Obj
  | .cells _ t frozen => .cells cs t frozen
  | o => o
/-- A world that meets the condition: the settled one, the variables' cells laid. -/
noncomputable def laidWorld (os : Os) : World :=
  { World.holding Tryd.prog os ⟨#[], #[], []⟩ with heap := (((World.holding Tryd.prog os ⟨#[], #[], []⟩).heap.modify 1 (reCells #[.iface 103 (.agg #[.pointer (some ⟨4, 42, none⟩)])])).modify 0 (reCells #[.int .u64 7640891576956012808, .int .u64 13503953896175478587, .int .u64 4354685564936845355, .int .u64 11912009170470909681, .int .u64 5840696475078001361, .int .u64 11170449401992604703, .int .u64 2270897969802886507, .int .u64 6620516959819538809])).modify 2 (reCells #[.int .u64 4794697086780616226, .int .u64 8158064640168781261, .int .u64 13096744586834688815, .int .u64 16840607885511220156, .int .u64 4131703408338449720, .int .u64 6480981068601479193, .int .u64 10538285296894168987, .int .u64 12329834152419229976, .int .u64 15566598209576043074, .int .u64 1334009975649890238, .int .u64 2608012711638119052, .int .u64 6128411473006802146, .int .u64 8268148722764581231, .int .u64 9286055187155687089, .int .u64 11230858885718282805, .int .u64 13951009754708518548, .int .u64 16472876342353939154, .int .u64 17275323862435702243, .int .u64 1135362057144423861, .int .u64 2597628984639134821, .int .u64 3308224258029322869, .int .u64 5365058923640841347, .int .u64 6679025012923562964, .int .u64 8573033837759648693, .int .u64 10970295158949994411, .int .u64 12119686244451234320, .int .u64 12683024718118986047, .int .u64 13788192230050041572, .int .u64 14330467153632333762, .int .u64 15395433587784984357, .int .u64 489312712824947311, .int .u64 1452737877330783856, .int .u64 2861767655752347644, .int .u64 3322285676063803686, .int .u64 5560940570517711597, .int .u64 5996557281743188959, .int .u64 7280758554555802590, .int .u64 8532644243296465576, .int .u64 9350256976987008742, .int .u64 10552545826968843579, .int .u64 11727347734174303076, .int .u64 12113106623233404929, .int .u64 14000437183269869457, .int .u64 14369950271660146224, .int .u64 15101387698204529176, .int .u64 15463397548674623760, .int .u64 17586052441742319658, .int .u64 1182934255886127544, .int .u64 1847814050463011016, .int .u64 2177327727835720531, .int .u64 2830643537854262169, .int .u64 3796741975233480872, .int .u64 4115178125766777443, .int .u64 5681478168544905931, .int .u64 6601373596472566643, .int .u64 7507060721942968483, .int .u64 8399075790359081724, .int .u64 8693463985226723168, .int .u64 9568029438360202098, .int .u64 10144078919501101548, .int .u64 10430055236837252648, .int .u64 11840083180663258601, .int .u64 13761210420658862357, .int .u64 14299343276471374635, .int .u64 14566680578165727644, .int .u64 15097957966210449927, .int .u64 16922976911328602910, .int .u64 17689382322260857208, .int .u64 500013540394364858, .int .u64 748580250866718886, .int .u64 1242879168328830382, .int .u64 1977374033974150939, .int .u64 2944078676154940804, .int .u64 3659926193048069267, .int .u64 4368137639120453308, .int .u64 4836135668995329356, .int .u64 5532061633213252278, .int .u64 6448918945643986474, .int .u64 6902733635092675308, .int .u64 7801388544844847127]) }
theorem laidWorld_met3 (os : Os) (args : Array Value) : laidMetH Tryd.prog L3 ((laidWorld os).forCall (fun _ _ => 0) ⟨#[], args, []⟩).memory :=
  laidMetH_of_parts (laidMet_of_run' 8 (by kernel_rfl) (by kernel_rfl)) (by kernel_rfl)
theorem laidWorld_met2 (os : Os) (args : Array Value) : laidMetH Tryd.prog L2 ((laidWorld os).forCall (fun _ _ => 0) ⟨#[], args, []⟩).memory :=
  laidMetH_of_parts (laidMet_of_run' 8 (by kernel_rfl) (by kernel_rfl)) (by kernel_rfl)

end Go.Proofs.YtcdfbcpcgkcojaaDoor
