/- The statement CurveMuls: the walk. -/
import Derived.Test.YthpbipebpaeagaaDoorRb
namespace Go.Proofs.YthpbipebpaeagaaDoor
set_option maxRecDepth 100000
set_option linter.unusedSimpArgs false
set_option linter.unusedVariables false
open Go.RowKit

set_option maxHeartbeats 12800000 in
theorem muls_law (N : Nat) (hN : N < 256 ^ 32) (w : World) (hq : Gc w) :
    Calls Tryd.prog 10 #[.agg (By N 32).toArray] w fun e w' => e = .returned (.bool true) ∧ Below w.heap.size w w' := by
  have hP : (muP baP N).ok := muP_ok baP_ok N
  have hm : (rmuP baR N).ok := rmO_ok N baR_ok 256
  have hN2 : N < 2 ^ 256 := Nat.lt_of_lt_of_eq hN (by decide)
  have iP : Is (muP baP N) (sm N bA) := is_mu baP_ok hN2 is_ba
  have im : Ir (rmuP baR N) (sm N bA) := ir_mu baR_ok hN2 baR_ir
  have htw := fun wx hq => two_any N wx hq
  generalize sm N bA = A at *
  generalize muP baP N = P at *
  generalize rmuP baR N = m at *
  have e1 : ptN P = ptR m := (is_told iP).trans (ir_told im).symm
  have e2 : ptN (ngP P) = ptR (rngP m) := (is_told (is_ng hP iP)).trans (ir_told (ir_ng hm im)).symm
  have hok : decOk (ptN P) = true := by rw [is_told iP]; exact dec_told iP.on
  have iQ : Is (decPt (ptN P)) A := by
    have h1 := is_dec hok
    have h2 : dcA (ptN P) = A := by rw [is_told iP]; exact dcA_told iP.on
    rwa [h2] at h1
  have e3 : sameB (decPt (ptN P)) P = true := by rw [is_same iQ iP]; exact decide_eq_true rfl
  have hde := fun wx hq => de_any (ptN P) wx hq
  have hQ := decPt_ok (ptN P)
  rw [hok] at hde
  generalize decPt (ptN P) = Q at *
  have HTW := Lib.hid htw
  have HDE := Lib.hid hde
  have E1 := Lib.hid e1
  have E2 := Lib.hid e2
  have E3 := Lib.hid e3
  have hb0 := Row.new w (By N 32) 22
  have hw := Below.alloc1 w (.cells (By N 32).toArray 22)
  have HL0 := Lib.hid hb0
  clear hde htw hok iP im iQ hN hN2 e1 e2 e3
  go_enter Tryd.func10, Tryd.ntmps10
  go_wp2_with (refine wpList_load_row rfl 22 (.tmp 1) rfl w.heap.size rfl 22 _ (0, 0) _ HL0.out Tryd.underlying22 rfl (by_info _) ?_)
  clear HL0
  refine (HTW.out _ (hq.belowAll hw)).mono ?_
  rintro e W1 ⟨rfl, hb⟩
  replace hw := hw.trans (hb.mono hw.size)
  clear hb hb0
  have e3 := (Row.new W1 (PL zeP) 58).alloc (.cells #[.int .u32 0, .int .u32 0, .int .u32 0, .int .u32 0, .int .u32 0, .int .u32 0, .int .u32 0, .int .u32 0, .int .u32 0, .int .u32 0, .int .u32 0, .int .u32 0, .int .u32 0, .int .u32 0, .int .u32 0, .int .u32 0, .int .u32 0, .int .u32 0, .int .u32 0, .int .u32 0, .int .u32 0, .int .u32 0, .int .u32 0, .int .u32 0] 62)
  have e4 : Row ((W1.alloc (.cells (PL zeP).toArray 58)).alloc (.cells #[.int .u32 0, .int .u32 0, .int .u32 0, .int .u32 0, .int .u32 0, .int .u32 0, .int .u32 0, .int .u32 0, .int .u32 0, .int .u32 0, .int .u32 0, .int .u32 0, .int .u32 0, .int .u32 0, .int .u32 0, .int .u32 0, .int .u32 0, .int .u32 0, .int .u32 0, .int .u32 0, .int .u32 0, .int .u32 0, .int .u32 0, .int .u32 0] 62)) (W1.heap.size + 1) 62 (RL zeR) := by
    rw [z24]
    exact Row.new1 W1 _ _ _
  replace e4 := e4.setRowOther (k := W1.heap.size) (by omega) (PL P).toArray
  have h3 := (e3.setRow (PL P)).setRowOther (k := W1.heap.size + 1) (by omega) (RL m).toArray
  have h4 := e4.setRow (RL m)
  have hsz := hw.size
  replace hw := below_setRow (g := W1.heap.size + 1) (below_setRow (g := W1.heap.size) ((hw.alloc hsz (.cells (PL zeP).toArray 58)).alloc (by simp; omega) (.cells #[.int .u32 0, .int .u32 0, .int .u32 0, .int .u32 0, .int .u32 0, .int .u32 0, .int .u32 0, .int .u32 0, .int .u32 0, .int .u32 0, .int .u32 0, .int .u32 0, .int .u32 0, .int .u32 0, .int .u32 0, .int .u32 0, .int .u32 0, .int .u32 0, .int .u32 0, .int .u32 0, .int .u32 0, .int .u32 0, .int .u32 0, .int .u32 0] 62)) hsz (PL P).toArray) (by omega) (RL m).toArray
  have E_3 := Lib.hid e3
  have E_4 := Lib.hid e4
  have NE := Lib.hid (show W1.heap.size ≠ W1.heap.size + 1 by omega)
  have H_3 := Lib.hid h3
  clear e3 e4 hsz
  go_wp2_with (first
      | (refine wpList_store_row rfl 58 (.tmp 3) (.tmp 10) rfl W1.heap.size _ rfl rfl 58 _ E_3.out (pl_info _) (PL_sz _ _) (PL_one _) ?_)
      | (refine wpList_store_row rfl 62 (.tmp 4) (.tmp 11) rfl (W1.heap.size + 1) _ rfl rfl 62 _ E_4.out (rl_info _) (RL_sz _ _) (RL_one _) ?_)
      | (refine wpList_load_row rfl 58 (.tmp 3) rfl W1.heap.size rfl 58 _ (0, 0) _ H_3.out Tryd.underlying58 rfl (pl_info _) ?_))
  clear E_3 E_4 H_3
  rw [z20]
  generalize (((W1.alloc (.cells (PL zeP).toArray 58)).alloc (.cells #[.int .u32 0, .int .u32 0, .int .u32 0, .int .u32 0, .int .u32 0, .int .u32 0, .int .u32 0, .int .u32 0, .int .u32 0, .int .u32 0, .int .u32 0, .int .u32 0, .int .u32 0, .int .u32 0, .int .u32 0, .int .u32 0, .int .u32 0, .int .u32 0, .int .u32 0, .int .u32 0, .int .u32 0, .int .u32 0, .int .u32 0, .int .u32 0] 62)).setRow W1.heap.size (PL P).toArray).setRow (W1.heap.size + 1) (RL m).toArray = V1 at *
  generalize W1.heap.size + 1 = g4 at *
  generalize W1.heap.size = g3 at *
  refine (by_any hP _ (hq.belowAll hw)).mono ?_
  rintro e W2 ⟨rfl, hb⟩
  replace h3 := h3.belowAll hb
  replace h4 := h4.belowAll hb
  replace hw := hw.trans (hb.mono hw.size)
  clear hb
  go_wp2_with fail
  refine (HDE.out _ (hq.belowAll hw)).mono ?_
  rintro e W3 ⟨rfl, hb⟩
  replace h3 := h3.belowAll hb
  replace h4 := h4.belowAll hb
  replace hw := hw.trans (hb.mono hw.size)
  clear hb
  have l3 := h3.lt
  have l4 := h4.lt
  have e_ := Row.new W3 (PL zeP) 58
  have h5 := e_.setRow (PL Q)
  replace h3 := (h3.alloc (.cells (PL zeP).toArray 58)).setRowOther (k := W3.heap.size) (by omega) (PL Q).toArray
  replace h4 := (h4.alloc (.cells (PL zeP).toArray 58)).setRowOther (k := W3.heap.size) (by omega) (PL Q).toArray
  have hsz := hw.size
  replace hw := below_setRow (g := W3.heap.size) (hw.alloc hw.size (.cells (PL zeP).toArray 58)) hw.size (PL Q).toArray
  have E_ := Lib.hid e_
  clear e_ hsz l3 l4
  go_wp2_with (refine wpList_store_row rfl 58 (.tmp 5) (.tmp 16) rfl W3.heap.size _ rfl rfl 58 _ E_.out (pl_info _) (PL_sz _ _) (PL_one _) ?_)
  clear E_ NE
  rw [z20]
  generalize (W3.alloc (.cells (PL zeP).toArray 58)).setRow W3.heap.size (PL Q).toArray = V3 at *
  generalize W3.heap.size = g5 at *
  have e1 := E1.out
  have e2 := E2.out
  have e3 := E3.out
  refine wp_flat_none (aD := ?aDq1) (S := fun w' => Below V3.heap.size V3 w')
    (vs := [(0, .agg (PL P).toArray), (1, .agg (By (ptN P) 32).toArray), (2, .agg (RL m).toArray), (3, .agg (By (ptR m) 32).toArray), (4, .bool true), (5, .bool true), (6, .agg (PL P).toArray), (7, .agg (PL (ngP P)).toArray), (8, .agg (By (ptN (ngP P)) 32).toArray), (9, .agg (RL m).toArray), (10, .agg (RL (rngP m)).toArray), (11, .agg (By (ptR (rngP m)) 32).toArray), (12, .bool true), (13, .bool true), (14, .bool true), (15, .bool true), (16, .bool true), (17, .bool true), (18, .agg (PL Q).toArray), (19, .agg (PL P).toArray), (20, .bool true), (21, .bool true), (22, .bool true), (23, .bool true), (24, .bool true), (25, .bool true)]) (by kernel_rfl) ((Below.refl _ _).drew) (fun _ _ h k => S_trans h k) ?hDq1 ?hkq1 ?hq1
  case hDq1 =>
    refine .step (some 18) rfl rfl (by kernel_rfl) (Gives.load_row 58 (.tmp 3) rfl (g3) rfl 58 _ (fun w' h => h3.belowAll h) Tryd.underlying58 rfl (pl_info _)) ?_
    simp only [Act.put, List.setIfInBounds_toArray, List.set_cons_zero, List.set_cons_succ]
    refine .step (some 19) rfl rfl (by kernel_rfl) (Gives.call (args := [.agg (PL P).toArray]) rfl Tryd.func47 (by kernel_rfl) (by kernel_rfl) rfl (fun w' h => by_any hP w' ((hq.belowAll hw).belowAll h))) ?_
    simp only [Act.put, List.setIfInBounds_toArray, List.set_cons_zero, List.set_cons_succ]
    refine .step (some 20) rfl rfl (by kernel_rfl) (Gives.load_row 62 (.tmp 4) rfl (g4) rfl 62 _ (fun w' h => h4.belowAll h) Tryd.underlying62 rfl (rl_info _)) ?_
    simp only [Act.put, List.setIfInBounds_toArray, List.set_cons_zero, List.set_cons_succ]
    refine .step (some 21) rfl rfl (by kernel_rfl) (Gives.call (args := [.agg (RL m).toArray]) rfl Tryd.func49 (by kernel_rfl) (by kernel_rfl) rfl (fun w' h => bytp_ref m w')) ?_
    simp only [Act.put, List.setIfInBounds_toArray, List.set_cons_zero, List.set_cons_succ]
    refine .step (some 22) rfl rfl (by kernel_rfl) (Gives.binop .eql 22 22 (.tmp 19) (.tmp 21) rfl (.agg (By (ptN P) 32).toArray) (.agg (By (ptR m) 32).toArray) _ rfl rfl (fun w' => bgrd _ _ _ _ _ w') (fun w' => beq_same e1 w')) ?_
    simp only [Act.put, List.setIfInBounds_toArray, List.set_cons_zero, List.set_cons_succ]
    refine .step (some 23) rfl rfl (by kernel_rfl) (Gives.move (x := (.tmp 22)) rfl rfl) ?_
    simp only [Act.put, List.setIfInBounds_toArray, List.set_cons_zero, List.set_cons_succ]
    refine .step (some 24) rfl rfl (by kernel_rfl) (Gives.load_row 58 (.tmp 3) rfl (g3) rfl 58 _ (fun w' h => h3.belowAll h) Tryd.underlying58 rfl (pl_info _)) ?_
    simp only [Act.put, List.setIfInBounds_toArray, List.set_cons_zero, List.set_cons_succ]
    refine .step (some 25) rfl rfl (by kernel_rfl) (Gives.call (args := [.agg (PL P).toArray]) rfl Tryd.func50 (by kernel_rfl) (by kernel_rfl) rfl (fun w' h => ng_any hP w' ((hq.belowAll hw).belowAll h))) ?_
    simp only [Act.put, List.setIfInBounds_toArray, List.set_cons_zero, List.set_cons_succ]
    refine .step (some 26) rfl rfl (by kernel_rfl) (Gives.call (args := [.agg (PL (ngP P)).toArray]) rfl Tryd.func47 (by kernel_rfl) (by kernel_rfl) rfl (fun w' h => by_any (ngP_ok hP) w' ((hq.belowAll hw).belowAll h))) ?_
    simp only [Act.put, List.setIfInBounds_toArray, List.set_cons_zero, List.set_cons_succ]
    refine .step (some 27) rfl rfl (by kernel_rfl) (Gives.load_row 62 (.tmp 4) rfl (g4) rfl 62 _ (fun w' h => h4.belowAll h) Tryd.underlying62 rfl (rl_info _)) ?_
    simp only [Act.put, List.setIfInBounds_toArray, List.set_cons_zero, List.set_cons_succ]
    refine .step (some 28) rfl rfl (by kernel_rfl) (Gives.call (args := [.agg (RL m).toArray]) rfl Tryd.func51 (by kernel_rfl) (by kernel_rfl) rfl (fun w' h => ngp_ref hm w')) ?_
    simp only [Act.put, List.setIfInBounds_toArray, List.set_cons_zero, List.set_cons_succ]
    refine .step (some 29) rfl rfl (by kernel_rfl) (Gives.call (args := [.agg (RL (rngP m)).toArray]) rfl Tryd.func49 (by kernel_rfl) (by kernel_rfl) rfl (fun w' h => bytp_ref (rngP m) w')) ?_
    simp only [Act.put, List.setIfInBounds_toArray, List.set_cons_zero, List.set_cons_succ]
    refine .step (some 30) rfl rfl (by kernel_rfl) (Gives.binop .eql 22 22 (.tmp 26) (.tmp 29) rfl (.agg (By (ptN (ngP P)) 32).toArray) (.agg (By (ptR (rngP m)) 32).toArray) _ rfl rfl (fun w' => bgrd _ _ _ _ _ w') (fun w' => beq_same e2 w')) ?_
    simp only [Act.put, List.setIfInBounds_toArray, List.set_cons_zero, List.set_cons_succ]
    refine .step (some 31) rfl rfl (by kernel_rfl) (Gives.pick (.tmp 23) (.tmp 30) (.const (.bool false)) rfl true (.bool true) rfl rfl) ?_
    simp only [Act.put, List.setIfInBounds_toArray, List.set_cons_zero, List.set_cons_succ]
    refine .step (some 32) rfl rfl (by kernel_rfl) (Gives.move (x := (.tmp 31)) rfl rfl) ?_
    simp only [Act.put, List.setIfInBounds_toArray, List.set_cons_zero, List.set_cons_succ]
    refine .step (some 33) rfl rfl (by kernel_rfl) (Gives.move (x := (.tmp 6)) rfl rfl) ?_
    simp only [Act.put, List.setIfInBounds_toArray, List.set_cons_zero, List.set_cons_succ]
    refine .step (some 34) rfl rfl (by kernel_rfl) (Gives.pick (.tmp 32) (.tmp 33) (.const (.bool false)) rfl true (.bool true) rfl rfl) ?_
    simp only [Act.put, List.setIfInBounds_toArray, List.set_cons_zero, List.set_cons_succ]
    refine .step (some 35) rfl rfl (by kernel_rfl) (Gives.move (x := (.tmp 34)) rfl rfl) ?_
    simp only [Act.put, List.setIfInBounds_toArray, List.set_cons_zero, List.set_cons_succ]
    refine .step (some 36) rfl rfl (by kernel_rfl) (Gives.load_row 58 (.tmp 5) rfl (g5) rfl 58 _ (fun w' h => h5.belowAll h) Tryd.underlying58 rfl (pl_info _)) ?_
    simp only [Act.put, List.setIfInBounds_toArray, List.set_cons_zero, List.set_cons_succ]
    refine .step (some 37) rfl rfl (by kernel_rfl) (Gives.load_row 58 (.tmp 3) rfl (g3) rfl 58 _ (fun w' h => h3.belowAll h) Tryd.underlying58 rfl (pl_info _)) ?_
    simp only [Act.put, List.setIfInBounds_toArray, List.set_cons_zero, List.set_cons_succ]
    refine .step (some 38) rfl rfl (by kernel_rfl) (Gives.call (args := [.agg (PL Q).toArray, .agg (PL P).toArray]) rfl Tryd.func44 (by kernel_rfl) (by kernel_rfl) rfl (fun w' h => sa_is hQ hP e3 w' ((hq.belowAll hw).belowAll h))) ?_
    simp only [Act.put, List.setIfInBounds_toArray, List.set_cons_zero, List.set_cons_succ]
    refine .step (some 39) rfl rfl (by kernel_rfl) (Gives.pick (.tmp 35) (.tmp 38) (.const (.bool false)) rfl true (.bool true) rfl rfl) ?_
    simp only [Act.put, List.setIfInBounds_toArray, List.set_cons_zero, List.set_cons_succ]
    refine .step (some 40) rfl rfl (by kernel_rfl) (Gives.move (x := (.tmp 39)) rfl rfl) ?_
    simp only [Act.put, List.setIfInBounds_toArray, List.set_cons_zero, List.set_cons_succ]
    refine .step (some 41) rfl rfl (by kernel_rfl) (Gives.call (args := []) rfl Tryd.func46 (by kernel_rfl) (by kernel_rfl) rfl (fun w' h => awake6 w' ((hq.belowAll hw).belowAll h))) ?_
    simp only [Act.put, List.setIfInBounds_toArray, List.set_cons_zero, List.set_cons_succ]
    refine .step (some 42) rfl rfl (by kernel_rfl) (Gives.pick (.tmp 40) (.tmp 41) (.const (.bool false)) rfl true (.bool true) rfl rfl) ?_
    simp only [Act.put, List.setIfInBounds_toArray, List.set_cons_zero, List.set_cons_succ]
    refine .step (some 2) rfl rfl (by kernel_rfl) (Gives.assign (x := (.tmp 42)) rfl rfl) ?_
    simp only [Act.put, List.setIfInBounds_toArray, List.set_cons_zero, List.set_cons_succ]
    exact .nil
  case hkq1 => kernel_rfl
  case hq1 =>
  intro Wq1 hb
  replace h3 := h3.belowAll hb
  replace h4 := h4.belowAll hb
  replace h5 := h5.belowAll hb
  replace hw := hw.trans (hb.mono hw.size)
  clear hb
  go_wp2_with fail
  go_ret
  exact ⟨rfl, hw⟩

end Go.Proofs.YthpbipebpaeagaaDoor
