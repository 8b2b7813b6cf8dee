/- What the rows' list gives a walk: the order's block; worlds that meet it. -/
import Derived.Test.YtklbcpaoccdmeaaDoorCards
import Derived.Test.YtklbcpaoccdmeaaDoorTie
import Derived.Test.YtklbcpaoccdmeaaDoorLaidT
import Derived.Test.YtklbcpaoccdmeaaDoorArg
import Derived.WalkKit
import Derived.ProofKit
import Derived.OpenShut
import Derived.Deep.DeepHandedRow
namespace Go.Proofs.YtklbcpaoccdmeaaDoor
set_option maxRecDepth 100000
open Go.ChangeShapes Go.WideShapes Go.ChangeAt Go.RowKit

theorem own : ownKnob Tryd.prog.godebug = none := by kernel_rfl
theorem laidOut : laidOutB Tryd.prog = true := by kernel_rfl
theorem q_named : Tryd.prog.globalNamed "dioptre/order.q" = some 0 := by kernel_rfl
theorem q_type : (Tryd.prog.globals[0]?).map (·.type) = some 36 := by kernel_rfl
def qzs : List Int := [6346243789798364141, 1503914060200516822, 0, 1152921504606846976, 0, 0, 0, 0]
theorem q_data : (Rows.laid_dioptre_order_q : DataW Unit) = Lib.tabData .u64 qzs := by rfl
theorem q_cells : qzs.map (Value.int .u64) = Nm qq := by
  unfold Nm
  rw [wds_qq]
  rfl
def LQ : List (String × DataW Unit) := [("dioptre/order.q", Rows.laid_dioptre_order_q)]
theorem tellsQ {W : World} (h : laidMetH Tryd.prog LQ W) : Qt W := by
  have h' : laidMet Tryd.prog LQ W := h
  have hm : ("dioptre/order.q", (Rows.laid_dioptre_order_q : DataW Unit)) ∈ LQ := by simp [LQ]
  rw [q_data] at hm
  obtain ⟨t, h1⟩ := row_of_laid h' hm q_named q_type Tryd.underlying36 Tryd.underlying34 (by kernel_rfl) (by kernel_rfl) (by decide)
  rw [q_cells] at h1
  exact ⟨t, h1⟩
/-- A block with other cells. -/
def reCells (cs : Array Value) : Obj → Obj
  | .cells _ t frozen => .cells cs t frozen
  | o => o
/-- A world that meets the condition: the settled one, the variable's cells laid. -/
noncomputable def laidWorld (os : Os) : World :=
  { World.holding Tryd.prog os ⟨#[], #[], []⟩ with heap := (World.holding Tryd.prog os ⟨#[], #[], []⟩).heap.modify 0 (reCells #[.int .u64 6346243789798364141, .int .u64 1503914060200516822, .int .u64 0, .int .u64 1152921504606846976, .int .u64 0, .int .u64 0, .int .u64 0, .int .u64 0]) }
theorem laidWorld_metQ (os : Os) (args : Array Value) : laidMetH Tryd.prog LQ ((laidWorld os).forCall (fun _ _ => 0) ⟨#[], args, []⟩).memory :=
  laidMetH_of_parts (laidMet_of_run' 8 (by kernel_rfl) (by kernel_rfl)) (by kernel_rfl)

/-- The document's example. -/
theorem By_2 : (By 2 32).toArray = #[.int .u8 2, .int .u8 0, .int .u8 0, .int .u8 0, .int .u8 0, .int .u8 0, .int .u8 0, .int .u8 0, .int .u8 0, .int .u8 0, .int .u8 0, .int .u8 0, .int .u8 0, .int .u8 0, .int .u8 0, .int .u8 0, .int .u8 0, .int .u8 0, .int .u8 0, .int .u8 0, .int .u8 0, .int .u8 0, .int .u8 0, .int .u8 0, .int .u8 0, .int .u8 0, .int .u8 0, .int .u8 0, .int .u8 0, .int .u8 0, .int .u8 0, .int .u8 0] := by kernel_rfl
theorem By_3 : (By 3 32).toArray = #[.int .u8 3, .int .u8 0, .int .u8 0, .int .u8 0, .int .u8 0, .int .u8 0, .int .u8 0, .int .u8 0, .int .u8 0, .int .u8 0, .int .u8 0, .int .u8 0, .int .u8 0, .int .u8 0, .int .u8 0, .int .u8 0, .int .u8 0, .int .u8 0, .int .u8 0, .int .u8 0, .int .u8 0, .int .u8 0, .int .u8 0, .int .u8 0, .int .u8 0, .int .u8 0, .int .u8 0, .int .u8 0, .int .u8 0, .int .u8 0, .int .u8 0, .int .u8 0] := by kernel_rfl
theorem By_4 : (By 4 32).toArray = #[.int .u8 4, .int .u8 0, .int .u8 0, .int .u8 0, .int .u8 0, .int .u8 0, .int .u8 0, .int .u8 0, .int .u8 0, .int .u8 0, .int .u8 0, .int .u8 0, .int .u8 0, .int .u8 0, .int .u8 0, .int .u8 0, .int .u8 0, .int .u8 0, .int .u8 0, .int .u8 0, .int .u8 0, .int .u8 0, .int .u8 0, .int .u8 0, .int .u8 0, .int .u8 0, .int .u8 0, .int .u8 0, .int .u8 0, .int .u8 0, .int .u8 0, .int .u8 0] := by kernel_rfl
theorem By_10 : (By 10 32).toArray = #[.int .u8 10, .int .u8 0, .int .u8 0, .int .u8 0, .int .u8 0, .int .u8 0, .int .u8 0, .int .u8 0, .int .u8 0, .int .u8 0, .int .u8 0, .int .u8 0, .int .u8 0, .int .u8 0, .int .u8 0, .int .u8 0, .int .u8 0, .int .u8 0, .int .u8 0, .int .u8 0, .int .u8 0, .int .u8 0, .int .u8 0, .int .u8 0, .int .u8 0, .int .u8 0, .int .u8 0, .int .u8 0, .int .u8 0, .int .u8 0, .int .u8 0, .int .u8 0] := by kernel_rfl
theorem n_lt {n : Nat} (h : n < 1000) : n < 256 ^ 32 := Nat.lt_of_lt_of_le h (by decide)

theorem build1 (x : Int) (w : World) : (Instr.build 23 #[(0, .int .u8 x)]).run Tryd.prog w = .ok (.agg #[.int .u8 x, .int .u8 0, .int .u8 0, .int .u8 0, .int .u8 0, .int .u8 0, .int .u8 0, .int .u8 0, .int .u8 0, .int .u8 0, .int .u8 0, .int .u8 0, .int .u8 0, .int .u8 0, .int .u8 0, .int .u8 0, .int .u8 0, .int .u8 0, .int .u8 0, .int .u8 0, .int .u8 0, .int .u8 0, .int .u8 0, .int .u8 0, .int .u8 0, .int .u8 0, .int .u8 0, .int .u8 0, .int .u8 0, .int .u8 0, .int .u8 0, .int .u8 0]) w := run_build w 23 _ _ (by kernel_rfl)

set_option maxHeartbeats 800000 in
theorem awake_any (w : World) (hq : Qt w) :
    Calls Tryd.prog 12 #[] w fun e w' => e = .returned (.bool true) ∧ Below w.heap.size w w' := by
  have h := muladd_fn 2 3 4 (n_lt (by decide)) (n_lt (by decide)) (n_lt (by decide)) w hq
  rw [By_2, By_3, By_4, show (2 * 3 + 4) % qq = 10 by decide +kernel, By_10] at h
  have he := beq_same (N := 10) (M := 10) rfl
  rw [By_10] at he
  have HB2 := build1 2
  have HB3 := build1 3
  have HB4 := build1 4
  have HB10 := build1 10
  have HE := Lib.hid he
  have HM := Lib.hid h
  clear hq h he
  go_enter Tryd.func12, Tryd.ntmps12
  go_wp2_with fail
  refine HM.out.mono ?_
  rintro e w1 ⟨rfl, hb⟩
  have HB := Lib.hid hb
  clear hb
  go_wp2_with (refine wpList_binop _ .eql 23 23 (.tmp 4) (.tmp 5) rfl (by rfl) _ _ (.bool true) rfl rfl (bgrd _ _ _ _ _ _) (HE.out _) ?_)
  go_ret
  exact ⟨rfl, HB.out⟩

end Go.Proofs.YtklbcpaoccdmeaaDoor
