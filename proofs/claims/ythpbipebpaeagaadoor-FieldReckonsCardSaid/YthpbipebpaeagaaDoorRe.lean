/- The document's numbers: down, Of. -/
import Derived.Test.YthpbipebpaeagaaDoorRc
import Derived.Test.YthpbipebpaeagaaDoorRd
import Derived.Test.YthpbipebpaeagaaDoorSide
namespace Go.Proofs.YthpbipebpaeagaaDoor
set_option maxRecDepth 100000
set_option linter.unusedSimpArgs false
open Go.RowKit

/-- The number of eight digits of 32 bits that lie in a block. -/
def rdN (w : World) (g : Nat) : Nat := match w.heap[g]? with
  | some (.cells cs _ _) => ((List.range 8).map fun i => (match cs[i]? with | some (.int _ z) => z.toNat | _ => 0) * 4294967296 ^ i).sum
  | _ => 0
theorem dw_sum (N : Nat) : ∀ n, ((List.range n).map fun i => dw N i * 4294967296 ^ i).sum = N % 4294967296 ^ n
  | 0 => by rw [Nat.pow_zero, Nat.mod_one]; rfl
  | n + 1 => by
    rw [List.range_succ, List.map_append, List.sum_append, dw_sum N n, mod_dw]
    simp [Nat.mul_comm]
theorem rdN_row {w : World} {g : Nat} {T : TypeId} {N : Nat} (h : Row w g T (Nw N)) (hN : N < W8) : rdN w g = N := by
  have e : rdN w g = ((List.range 8).map fun i => dw N i * 4294967296 ^ i).sum := by
    unfold rdN
    have h' : w.heap[g]? = some (.cells (Nw N).toArray T (0, 0)) := h
    rw [h']
    congr 1
  rw [e, dw_sum]
  exact Nat.mod_eq_of_lt hN
theorem dif8_sub {A B : Nat} (h : B ≤ A) : dif8 A B = A - B := by unfold dif8; rw [if_neg (by omega), Nat.mul_zero, Nat.add_zero]
theorem nw_ext0 (x : Value) (b : Bool) (w : World) : (Instr.extract (.tuple #[x, .bool b]) 0).run Tryd.prog w = .ok x w := by rfl
theorem nw_ext1 (x : Value) (b : Bool) (w : World) : (Instr.extract (.tuple #[x, .bool b]) 1).run Tryd.prog w = .ok (.bool b) w := by rfl

theorem less_is {A B : Nat} (hA : A < W8) (hB : B < W8) {b : Bool} (h : decide (A < B) = b) (w : World) :
    Calls Tryd.prog 23 #[.agg (Nw A).toArray, .agg (Nw B).toArray] w fun e w' => e = .returned (.bool b) ∧ Below w.heap.size w w' := by
  rw [← h]; exact less_ref A B hA hB w

set_option maxHeartbeats 3200000 in
theorem down_ref (N : Nat) (hN : N < W8) (w : World) :
    Calls Tryd.prog 65 #[.agg (Nw N).toArray] w fun e w' => e = .returned (.agg (Nw (N % pp)).toArray) ∧ Below w.heap.size w w' := by
  have HS4 := Lib.hid nw_info
  have HN := Lib.hid hN
  clear hN
  go_enter Tryd.func65, Tryd.ntmps65
  go_wp2_with fail
  go_loopw [] (fun wr => ∃ M : Nat, M ≤ N ∧ M % pp = N % pp ∧ Row wr w.heap.size 30 (Nw M) ∧ Row wr (w.heap.size + 1) 30 (Nw 0) ∧ Below w.heap.size w wr) (fun wr => rdN wr w.heap.size)
  case atStart =>
    refine ⟨N, Nat.le_refl _, rfl, (Row.new w _ _).alloc _, ?_, Below.alloc2 _ _ _⟩
    rw [Nw_zero]
    exact Row.new1 w _ _ _
  case round =>
    obtain ⟨M, hMN, hmod, hrow, hres, hbe⟩ := hrel
    have hM : M < W8 := Nat.lt_of_le_of_lt hMN HN.out
    have hld := fun (w' : World) (h : Below wr.heap.size wr w') => hrow.belowAll h
    by_cases hlt : M < pp
    · have hd : decide (M < pp) = true := decide_eq_true hlt
      go_wp2_with fail
      refine wp_flat_none (aD := ?aD1) (S := fun w' => Below wr.heap.size wr w') (vs := [(0, .agg (Nw M).toArray), (1, .agg (Nw pp).toArray), (2, .bool true), (3, .bool false)]) (by kernel_rfl) ((Below.refl _ _).drew) (fun _ _ h k => S_trans h k) ?hD1 ?hk1 ?h1
      case hD1 =>
        refine .step (some 3) rfl rfl (by kernel_rfl) (Gives.load_row 30 (.tmp 1) rfl (w.heap.size) rfl 30 _ hld Tryd.underlying30 rfl (HS4.out _)) ?_
        simp only [Act.put, List.setIfInBounds_toArray, List.set_cons_zero, List.set_cons_succ]
        refine .step (some 4) rfl rfl (by kernel_rfl) (Gives.call (args := []) rfl Tryd.func25 (by kernel_rfl) (by kernel_rfl) rfl (fun w' _ => P_any w')) ?_
        simp only [Act.put, List.setIfInBounds_toArray, List.set_cons_zero, List.set_cons_succ]
        refine .step (some 5) rfl rfl (by kernel_rfl) (Gives.call (args := [.agg (Nw M).toArray, .agg (Nw pp).toArray]) rfl Tryd.func23 (by kernel_rfl) (by kernel_rfl) rfl (fun w' _ => less_is hM pp_W8 hd w')) ?_
        simp only [Act.put, List.setIfInBounds_toArray, List.set_cons_zero, List.set_cons_succ]
        refine .step (some 6) rfl rfl (by kernel_rfl) (Gives.unop .not 4 (.tmp 5) rfl (.bool true) (.bool false) rfl (fun w' => rfl)) ?_
        simp only [Act.put, List.setIfInBounds_toArray, List.set_cons_zero, List.set_cons_succ]
        exact .nil
      case hk1 => kernel_rfl
      case h1 =>
      intro w1 hb1
      have hr1 := hrow.belowAll hb1
      have hz1 := hres.belowAll hb1
      have hw1 := hbe.trans (hb1.mono hbe.size)
      rw [Nat.mod_eq_of_lt hlt] at hmod
      rw [hmod] at hr1
      clear hrow hres hbe hld hb1 hd
      go_wp2_with (first
        | (refine wpList_load_row rfl 30 (.tmp 1) rfl w.heap.size rfl 30 _ (0, 0) _ hr1 Tryd.underlying30 rfl (HS4.out _) ?_)
        | (refine wpList_store_row rfl 30 (.tmp 2) (.tmp 13) rfl (w.heap.size + 1) _ rfl rfl 30 _ hz1 (HS4.out _) (Nw_sz _ _) (Nw_one _) ?_))
      have hgot := setRow_heap w1 (w.heap.size + 1) _ (Nw (N % pp)).toArray _ _ hz1
      refine bodyPost_ret (results_cell_row (by rfl) _ _ (w.heap.size + 1) _ _ _ _ (by rfl) hgot Tryd.underlying30 rfl (HS4.out _)) rfl ?_
      exact ⟨rfl, below_setRow hw1 (by omega) _⟩
    · have hd : decide (M < pp) = false := decide_eq_false hlt
      have hmin := fun wx => minus_ref M pp hM pp_W8 wx
      rw [dif8_sub (by omega), hd] at hmin
      go_wp2_with fail
      refine wp_flat_none (aD := ?aD3) (S := fun w' => Below wr.heap.size wr w') (vs := [(0, .agg (Nw M).toArray), (1, .agg (Nw pp).toArray), (2, .bool false), (3, .bool true)]) (by kernel_rfl) ((Below.refl _ _).drew) (fun _ _ h k => S_trans h k) ?hD3 ?hk3 ?h3
      case hD3 =>
        refine .step (some 3) rfl rfl (by kernel_rfl) (Gives.load_row 30 (.tmp 1) rfl (w.heap.size) rfl 30 _ hld Tryd.underlying30 rfl (HS4.out _)) ?_
        simp only [Act.put, List.setIfInBounds_toArray, List.set_cons_zero, List.set_cons_succ]
        refine .step (some 4) rfl rfl (by kernel_rfl) (Gives.call (args := []) rfl Tryd.func25 (by kernel_rfl) (by kernel_rfl) rfl (fun w' _ => P_any w')) ?_
        simp only [Act.put, List.setIfInBounds_toArray, List.set_cons_zero, List.set_cons_succ]
        refine .step (some 5) rfl rfl (by kernel_rfl) (Gives.call (args := [.agg (Nw M).toArray, .agg (Nw pp).toArray]) rfl Tryd.func23 (by kernel_rfl) (by kernel_rfl) rfl (fun w' _ => less_is hM pp_W8 hd w')) ?_
        simp only [Act.put, List.setIfInBounds_toArray, List.set_cons_zero, List.set_cons_succ]
        refine .step (some 6) rfl rfl (by kernel_rfl) (Gives.unop .not 4 (.tmp 5) rfl (.bool false) (.bool true) rfl (fun w' => rfl)) ?_
        simp only [Act.put, List.setIfInBounds_toArray, List.set_cons_zero, List.set_cons_succ]
        exact .nil
      case hk3 => kernel_rfl
      case h3 =>
      intro w1 hb1
      have hr1 := hrow.belowAll hb1
      have hz1 := hres.belowAll hb1
      have hw1 := hbe.trans (hb1.mono hbe.size)
      have hrd : rdN wr w.heap.size = M := rdN_row hrow hM
      have HRD := Lib.hid hrd
      have HMOD := Lib.hid hmod
      have HMIN := Lib.hid hmin
      clear hrow hres hbe hld hb1 hd hrd hmod hmin
      go_wp2_with fail
      refine wp_flat_side (aD := ?aD2) (S := fun w' => Below w1.heap.size w1 w') (x := 4) (y := 5) (s := 6) (u := .agg (Nw (M - pp)).toArray) (v := .bool false) (T := 30) (T' := 30) (g := w.heap.size) (z := Nw M) (c := Nw (M - pp)) (p := .tmp 1) (q := .tmp 11)
        (vs := [(0, .agg (Nw M).toArray), (1, .agg (Nw pp).toArray), (2, .tuple #[.agg (Nw (M - pp)).toArray, .bool false]), (3, .tuple #[.agg (Nw (M - pp)).toArray, .bool false])]) (by kernel_rfl) ((Below.refl _ _).drew) (fun _ _ h k => S_trans h k) ?hD2 ?hk2 rfl rfl rfl rfl rfl rfl (some 11) (some 12) rfl rfl ?eX ?eY ?eXY ?eYX ?ec rfl rfl ?e1 ?e2 ?e3 ?e4 (fun w' h => hr1.belowAll h) (HS4.out _) (Nw_sz _ _) (Nw_one _) ?h2
      case hD2 =>
        refine .step (some 8) rfl rfl (by kernel_rfl) (Gives.load_row 30 (.tmp 1) rfl (w.heap.size) rfl 30 _ (fun w' h => hr1.belowAll h) Tryd.underlying30 rfl (HS4.out _)) ?_
        simp only [Act.put, List.setIfInBounds_toArray, List.set_cons_zero, List.set_cons_succ]
        refine .step (some 9) rfl rfl (by kernel_rfl) (Gives.call (args := []) rfl Tryd.func25 (by kernel_rfl) (by kernel_rfl) rfl (fun w' _ => P_any w')) ?_
        simp only [Act.put, List.setIfInBounds_toArray, List.set_cons_zero, List.set_cons_succ]
        refine .step (some 10) rfl rfl (by kernel_rfl) (Gives.call (args := [.agg (Nw M).toArray, .agg (Nw pp).toArray]) rfl Tryd.func67 (by kernel_rfl) (by kernel_rfl) rfl (fun w' _ => HMIN.out w')) ?_
        simp only [Act.put, List.setIfInBounds_toArray, List.set_cons_zero, List.set_cons_succ]
        refine .step (some 7) rfl rfl (by kernel_rfl) (Gives.move (x := .tmp 10) rfl rfl) ?_
        simp only [Act.put, List.setIfInBounds_toArray, List.set_cons_zero, List.set_cons_succ]
        exact .nil
      case hk2 => kernel_rfl
      case eX => exact exec_extract (.tmp 7) 0 rfl _ _ rfl (fun w' => nw_ext0 _ _ w')
      case eY => exact exec_extract (.tmp 7) 1 rfl _ _ rfl (fun w' => nw_ext1 _ _ w')
      case eXY => exact exec_extract (.tmp 7) 0 rfl _ _ rfl (fun w' => nw_ext0 _ _ w')
      case eYX => exact exec_extract (.tmp 7) 1 rfl _ _ rfl (fun w' => nw_ext1 _ _ w')
      case ec => rfl
      case e1 => rfl
      case e2 => rfl
      case e3 => rfl
      case e4 => rfl
      case h2 =>
      intro w2 hb2
      simp only [Act.put, List.setIfInBounds_toArray, List.set_cons_zero, List.set_cons_succ]
      have hr2 := (hr1.belowAll hb2).setRow (Nw (M - pp))
      have hz2 := (hz1.belowAll hb2).setRowOther (k := w.heap.size) (by omega) (Nw (M - pp)).toArray
      have hw2 := below_setRow (g := w.heap.size) (hw1.trans (hb2.mono hw1.size)) (Nat.le_refl _) (Nw (M - pp)).toArray
      have hpos : 0 < pp := by decide
      have hrd2 := rdN_row hr2 (show M - pp < W8 by omega)
      have HR2 := Lib.hid hr2
      have HZ2 := Lib.hid hz2
      have HW2 := Lib.hid hw2
      have HRD2 := Lib.hid hrd2
      clear hr1 hz1 hw1 hb2 hr2 hz2 hw2 hrd2
      go_wp2_with fail
      go_roundw
      case rel => exact ⟨M - pp, by omega, by rw [← Nat.mod_eq_sub_mod (by omega)]; exact HMOD.out, HR2.out, HZ2.out, HW2.out⟩
      case measure => rw [HRD2.out, HRD.out]; omega

end Go.Proofs.YthpbipebpaeagaaDoor
