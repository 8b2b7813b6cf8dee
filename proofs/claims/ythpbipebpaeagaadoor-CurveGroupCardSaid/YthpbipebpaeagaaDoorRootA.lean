/- field's Invert, Root. -/
import Derived.Test.YthpbipebpaeagaaDoorPowF
import Derived.Test.YthpbipebpaeagaaDoorNegF
namespace Go.Proofs.YthpbipebpaeagaaDoor
set_option maxRecDepth 100000
set_option linter.unusedSimpArgs false
open Go.RowKit

theorem el_alloc (w : World) : (Instr.alloc 26 true (.tuple #[])).run Tryd.prog w = .ok (.pointer (some ⟨w.heap.size, 0, none⟩)) (w.alloc (.cells (EL zeL).toArray 26)) := by kernel_rfl
theorem el_zero (w : World) : (Instr.build 26 #[]).run Tryd.prog w = .ok (.agg (EL zeL).toArray) w := run_build w 26 _ _ (by kernel_rfl)
theorem exp_inv (w : World) : Calls Tryd.prog 71 #[.int .u8 235, .int .u8 127] w fun e w' => e = .returned (.agg (By eInv 32).toArray) ∧ Below w.heap.size w w' :=
  exp_any 235 127 eInv (by decide +kernel) w
theorem exp_rt (w : World) : Calls Tryd.prog 71 #[.int .u8 253, .int .u8 15] w fun e w' => e = .returned (.agg (By eRt 32).toArray) ∧ Below w.heap.size w w' :=
  exp_any 253 15 eRt (by decide +kernel) w

set_option maxHeartbeats 1600000 in
theorem inv_any {x : Lm} (hx : x.ok) (w : World) :
    Calls Tryd.prog 34 #[.agg (EL x).toArray] w fun e w' => e = .returned (.agg (EL (invL x)).toArray) ∧ Below w.heap.size w w' := by
  unfold invL
  have hr1 := (Row.new w (EL x) 26).alloc (.cells (EL zeL).toArray 26)
  have hr2 := Row.new1 w (.cells (EL x).toArray 26) (EL zeL) 26
  have hb0 := Below.alloc2 w (.cells (EL x).toArray 26) (.cells (EL zeL).toArray 26)
  go_enter Tryd.func34, Tryd.ntmps34
  go_wp2_with fail
  rw [show (#[Value.int .u64 0, .int .u64 0, .int .u64 0, .int .u64 0, .int .u64 0] : Array Value) = (EL zeL).toArray from rfl]
  generalize (w.alloc (.cells (EL x).toArray 26)).alloc (.cells (EL zeL).toArray 26) = W0 at *
  refine wp_flat_store (aD := ?aD1) (S := fun w' => Below W0.heap.size W0 w') (s := 3) (T := 26) (T' := 26) (g := w.heap.size + 1) (z := EL zeL) (c := EL (powL x eInv)) (x := .tmp 2) (y := .tmp 5)
    (vs := [(0, .agg (EL x).toArray), (1, .agg (By eInv 32).toArray), (2, .agg (EL (powL x eInv)).toArray)]) (by kernel_rfl) ((Below.refl _ _).drew) (fun _ _ h k => S_trans h k) ?hD1 ?hk1 rfl rfl rfl rfl ?e5 ?e6 (fun w' h => hr2.belowAll h) (el_info _) (EL_sz _ _) (EL_one _) ?h1
  case hD1 =>
    refine .step (some 3) rfl rfl (by kernel_rfl) (Gives.load_row 26 (.tmp 1) rfl (w.heap.size) rfl 26 _ (fun w' h => hr1.belowAll h) Tryd.underlying26 rfl (el_info _)) ?_
    simp only [Act.put, List.setIfInBounds_toArray, List.set_cons_zero, List.set_cons_succ]
    refine .step (some 4) rfl rfl (by kernel_rfl) (Gives.call (args := [.int .u8 235, .int .u8 127]) rfl Tryd.func71 (by kernel_rfl) (by kernel_rfl) rfl (fun w' h => exp_inv w')) ?_
    simp only [Act.put, List.setIfInBounds_toArray, List.set_cons_zero, List.set_cons_succ]
    refine .step (some 5) rfl rfl (by kernel_rfl) (Gives.call (args := [.agg (EL x).toArray, .agg (By eInv 32).toArray]) rfl Tryd.func36 (by kernel_rfl) (by kernel_rfl) rfl (fun w' h => pow_any eInv hx w')) ?_
    simp only [Act.put, List.setIfInBounds_toArray, List.set_cons_zero, List.set_cons_succ]
    exact .nil
  case hk1 => kernel_rfl
  case e5 => rfl
  case e6 => rfl
  case h1 =>
  intro W1 hb
  have hgot := setRow_heap W1 (w.heap.size + 1) _ (EL (powL x eInv)).toArray _ _ (hr2.belowAll hb)
  go_wp2_with fail
  refine bodyPost_ret (results_cell_row (by rfl) _ _ (w.heap.size + 1) _ _ _ _ (by rfl) hgot Tryd.underlying26 rfl (el_info _)) rfl ?_
  exact ⟨rfl, below_setRow (hb0.trans (hb.mono hb0.size)) (by omega) _⟩

set_option maxHeartbeats 3200000 in
theorem cand_any {u v : Lm} (hu : u.ok) (hv : v.ok) (w : World) :
    Calls Tryd.prog 74 #[.agg (EL u).toArray, .agg (EL v).toArray] w fun e w' => e = .returned (.agg (EL (candL u v)).toArray) ∧ Below w.heap.size w w' := by
  unfold candL v7L v3L
  have hr1 := ((Row.new w (EL u) 26).alloc (.cells (EL v).toArray 26)).alloc (.cells (EL zeL).toArray 26)
  have hr2 := (Row.new1 w (.cells (EL u).toArray 26) (EL v) 26).alloc (.cells (EL zeL).toArray 26)
  have hr3 := Row.new2 w (.cells (EL u).toArray 26) (.cells (EL v).toArray 26) (EL zeL) 26
  have hb0 := Below.alloc3 w (.cells (EL u).toArray 26) (.cells (EL v).toArray 26) (.cells (EL zeL).toArray 26)
  go_enter Tryd.func74, Tryd.ntmps74
  go_wp2_with fail
  rw [show (#[Value.int .u64 0, .int .u64 0, .int .u64 0, .int .u64 0, .int .u64 0] : Array Value) = (EL zeL).toArray from rfl]
  have hsz0 : (((w.alloc (.cells (EL u).toArray 26)).alloc (.cells (EL v).toArray 26)).alloc (.cells (EL zeL).toArray 26)).heap.size = w.heap.size + 1 + 1 + 1 := by simp
  generalize ((w.alloc (.cells (EL u).toArray 26)).alloc (.cells (EL v).toArray 26)).alloc (.cells (EL zeL).toArray 26) = W0 at *
  refine wp_flat_new_store (aD := ?aD1) (B := W0.heap.size) (S := fun w' => Below W0.heap.size W0 w') (k := 5) (s := 6) (T := 26) (z := EL zeL) (c := EL (mulL (mulL v v) v)) (x := .tmp 5) (y := .tmp 11)
    (vs := [(0, .agg (EL v).toArray), (1, .agg (EL v).toArray), (2, .agg (EL (mulL v v)).toArray), (3, .agg (EL v).toArray), (4, .agg (EL (mulL (mulL v v) v)).toArray)]) (by kernel_rfl) ((Below.refl _ _).drew) (fun _ _ h k => S_trans h k) (fun _ _ cs h hg => S_row h hg cs) (fun _ h => h.size) ?hD1 (.of rfl rfl rfl (fun w' => el_alloc w')) ?hk1 rfl rfl (some 5) rfl rfl rfl ?e5 ?e6 (el_info _) (EL_sz _ _) (EL_one _) ?h1
  case hD1 =>
    refine .step (some 7) rfl rfl (by kernel_rfl) (Gives.load_row 26 (.tmp 3) rfl (w.heap.size + 1) rfl 26 _ (fun w' h => hr2.belowAll h) Tryd.underlying26 rfl (el_info _)) ?_
    simp only [Act.put, List.setIfInBounds_toArray, List.set_cons_zero, List.set_cons_succ]
    refine .step (some 8) rfl rfl (by kernel_rfl) (Gives.load_row 26 (.tmp 3) rfl (w.heap.size + 1) rfl 26 _ (fun w' h => hr2.belowAll h) Tryd.underlying26 rfl (el_info _)) ?_
    simp only [Act.put, List.setIfInBounds_toArray, List.set_cons_zero, List.set_cons_succ]
    refine .step (some 9) rfl rfl (by kernel_rfl) (Gives.call (args := [.agg (EL v).toArray, .agg (EL v).toArray]) rfl Tryd.func31 (by kernel_rfl) (by kernel_rfl) rfl (fun w' h => mul_any hv hv w')) ?_
    simp only [Act.put, List.setIfInBounds_toArray, List.set_cons_zero, List.set_cons_succ]
    refine .step (some 10) rfl rfl (by kernel_rfl) (Gives.load_row 26 (.tmp 3) rfl (w.heap.size + 1) rfl 26 _ (fun w' h => hr2.belowAll h) Tryd.underlying26 rfl (el_info _)) ?_
    simp only [Act.put, List.setIfInBounds_toArray, List.set_cons_zero, List.set_cons_succ]
    refine .step (some 11) rfl rfl (by kernel_rfl) (Gives.call (args := [.agg (EL (mulL v v)).toArray, .agg (EL v).toArray]) rfl Tryd.func31 (by kernel_rfl) (by kernel_rfl) rfl (fun w' h => mul_any (mulL_ok hv hv) hv w')) ?_
    simp only [Act.put, List.setIfInBounds_toArray, List.set_cons_zero, List.set_cons_succ]
    exact .nil
  case hk1 => kernel_rfl
  case e5 => intro g; rfl
  case e6 => intro g; rfl
  case h1 =>
  intro g3 W1 hb hge hg3
  simp only [Act.put, List.setIfInBounds_toArray, List.set_cons_zero, List.set_cons_succ]
  have k1 := hr1.belowAll hb
  have k2 := hr2.belowAll hb
  have k3 := hr3.belowAll hb
  have kb := hb0.trans (hb.mono hb0.size)
  have ks := hb.size
  clear hr1 hr2 hr3 hb0 hb
  go_wp2_with fail
  refine wp_flat_new_store (aD := ?aD2) (B := W1.heap.size) (S := fun w' => Below W1.heap.size W1 w') (k := 5) (s := 6) (T := 26) (z := EL zeL) (c := EL (mulL (mulL (mulL (mulL v v) v) (mulL (mulL v v) v)) v)) (x := .tmp 6) (y := .tmp 16)
    (vs := [(0, .agg (EL (mulL (mulL v v) v)).toArray), (1, .agg (EL (mulL (mulL v v) v)).toArray), (2, .agg (EL (mulL (mulL (mulL v v) v) (mulL (mulL v v) v))).toArray), (3, .agg (EL v).toArray), (4, .agg (EL (mulL (mulL (mulL (mulL v v) v) (mulL (mulL v v) v)) v)).toArray)]) (by kernel_rfl) ((Below.refl _ _).drew) (fun _ _ h k => S_trans h k) (fun _ _ cs h hg => S_row h hg cs) (fun _ h => h.size) ?hD2 (.of rfl rfl rfl (fun w' => el_alloc w')) ?hk2 rfl rfl (some 6) rfl rfl rfl ?e5 ?e6 (el_info _) (EL_sz _ _) (EL_one _) ?h2
  case hD2 =>
    refine .step (some 12) rfl rfl (by kernel_rfl) (Gives.load_row 26 (.tmp 5) rfl (g3) rfl 26 _ (fun w' h => hg3.belowAll h) Tryd.underlying26 rfl (el_info _)) ?_
    simp only [Act.put, List.setIfInBounds_toArray, List.set_cons_zero, List.set_cons_succ]
    refine .step (some 13) rfl rfl (by kernel_rfl) (Gives.load_row 26 (.tmp 5) rfl (g3) rfl 26 _ (fun w' h => hg3.belowAll h) Tryd.underlying26 rfl (el_info _)) ?_
    simp only [Act.put, List.setIfInBounds_toArray, List.set_cons_zero, List.set_cons_succ]
    refine .step (some 14) rfl rfl (by kernel_rfl) (Gives.call (args := [.agg (EL (mulL (mulL v v) v)).toArray, .agg (EL (mulL (mulL v v) v)).toArray]) rfl Tryd.func31 (by kernel_rfl) (by kernel_rfl) rfl (fun w' h => mul_any (mulL_ok (mulL_ok hv hv) hv) (mulL_ok (mulL_ok hv hv) hv) w')) ?_
    simp only [Act.put, List.setIfInBounds_toArray, List.set_cons_zero, List.set_cons_succ]
    refine .step (some 15) rfl rfl (by kernel_rfl) (Gives.load_row 26 (.tmp 3) rfl (w.heap.size + 1) rfl 26 _ (fun w' h => k2.belowAll h) Tryd.underlying26 rfl (el_info _)) ?_
    simp only [Act.put, List.setIfInBounds_toArray, List.set_cons_zero, List.set_cons_succ]
    refine .step (some 16) rfl rfl (by kernel_rfl) (Gives.call (args := [.agg (EL (mulL (mulL (mulL v v) v) (mulL (mulL v v) v))).toArray, .agg (EL v).toArray]) rfl Tryd.func31 (by kernel_rfl) (by kernel_rfl) rfl (fun w' h => mul_any (mulL_ok (mulL_ok (mulL_ok hv hv) hv) (mulL_ok (mulL_ok hv hv) hv)) hv w')) ?_
    simp only [Act.put, List.setIfInBounds_toArray, List.set_cons_zero, List.set_cons_succ]
    exact .nil
  case hk2 => kernel_rfl
  case e5 => intro g; rfl
  case e6 => intro g; rfl
  case h2 =>
  intro g7 W2 hb hge7 hg7
  simp only [Act.put, List.setIfInBounds_toArray, List.set_cons_zero, List.set_cons_succ]
  have l1 := k1.belowAll hb
  have l2 := k2.belowAll hb
  have l3 := k3.belowAll hb
  have l4 := hg3.belowAll hb
  have lb := kb.trans (hb.mono kb.size)
  have ls := hb.size
  clear k1 k2 k3 hg3 kb hb
  go_wp2_with fail
  refine wp_flat_store (aD := ?aD3) (S := fun w' => Below W2.heap.size W2 w') (s := 9) (T := 26) (T' := 26) (g := w.heap.size + 1 + 1) (z := EL zeL) (c := EL (mulL (mulL u (mulL (mulL v v) v)) (powL (mulL u (mulL (mulL (mulL (mulL v v) v) (mulL (mulL v v) v)) v)) eRt))) (x := .tmp 4) (y := .tmp 25)
    (vs := [(0, .agg (EL u).toArray), (1, .agg (EL (mulL (mulL v v) v)).toArray), (2, .agg (EL (mulL u (mulL (mulL v v) v))).toArray), (3, .agg (EL u).toArray), (4, .agg (EL (mulL (mulL (mulL (mulL v v) v) (mulL (mulL v v) v)) v)).toArray), (5, .agg (EL (mulL u (mulL (mulL (mulL (mulL v v) v) (mulL (mulL v v) v)) v))).toArray), (6, .agg (By eRt 32).toArray), (7, .agg (EL (powL (mulL u (mulL (mulL (mulL (mulL v v) v) (mulL (mulL v v) v)) v)) eRt)).toArray), (8, .agg (EL (mulL (mulL u (mulL (mulL v v) v)) (powL (mulL u (mulL (mulL (mulL (mulL v v) v) (mulL (mulL v v) v)) v)) eRt))).toArray)]) (by kernel_rfl) ((Below.refl _ _).drew) (fun _ _ h k => S_trans h k) ?hD3 ?hk3 rfl rfl rfl rfl ?e5 ?e6 (fun w' h => l3.belowAll h) (el_info _) (EL_sz _ _) (EL_one _) ?h3
  case hD3 =>
    refine .step (some 17) rfl rfl (by kernel_rfl) (Gives.load_row 26 (.tmp 2) rfl (w.heap.size) rfl 26 _ (fun w' h => l1.belowAll h) Tryd.underlying26 rfl (el_info _)) ?_
    simp only [Act.put, List.setIfInBounds_toArray, List.set_cons_zero, List.set_cons_succ]
    refine .step (some 18) rfl rfl (by kernel_rfl) (Gives.load_row 26 (.tmp 5) rfl (g3) rfl 26 _ (fun w' h => l4.belowAll h) Tryd.underlying26 rfl (el_info _)) ?_
    simp only [Act.put, List.setIfInBounds_toArray, List.set_cons_zero, List.set_cons_succ]
    refine .step (some 19) rfl rfl (by kernel_rfl) (Gives.call (args := [.agg (EL u).toArray, .agg (EL (mulL (mulL v v) v)).toArray]) rfl Tryd.func31 (by kernel_rfl) (by kernel_rfl) rfl (fun w' h => mul_any hu (mulL_ok (mulL_ok hv hv) hv) w')) ?_
    simp only [Act.put, List.setIfInBounds_toArray, List.set_cons_zero, List.set_cons_succ]
    refine .step (some 20) rfl rfl (by kernel_rfl) (Gives.load_row 26 (.tmp 2) rfl (w.heap.size) rfl 26 _ (fun w' h => l1.belowAll h) Tryd.underlying26 rfl (el_info _)) ?_
    simp only [Act.put, List.setIfInBounds_toArray, List.set_cons_zero, List.set_cons_succ]
    refine .step (some 21) rfl rfl (by kernel_rfl) (Gives.load_row 26 (.tmp 6) rfl (g7) rfl 26 _ (fun w' h => hg7.belowAll h) Tryd.underlying26 rfl (el_info _)) ?_
    simp only [Act.put, List.setIfInBounds_toArray, List.set_cons_zero, List.set_cons_succ]
    refine .step (some 22) rfl rfl (by kernel_rfl) (Gives.call (args := [.agg (EL u).toArray, .agg (EL (mulL (mulL (mulL (mulL v v) v) (mulL (mulL v v) v)) v)).toArray]) rfl Tryd.func31 (by kernel_rfl) (by kernel_rfl) rfl (fun w' h => mul_any hu (mulL_ok (mulL_ok (mulL_ok (mulL_ok hv hv) hv) (mulL_ok (mulL_ok hv hv) hv)) hv) w')) ?_
    simp only [Act.put, List.setIfInBounds_toArray, List.set_cons_zero, List.set_cons_succ]
    refine .step (some 23) rfl rfl (by kernel_rfl) (Gives.call (args := [.int .u8 253, .int .u8 15]) rfl Tryd.func71 (by kernel_rfl) (by kernel_rfl) rfl (fun w' h => exp_rt w')) ?_
    simp only [Act.put, List.setIfInBounds_toArray, List.set_cons_zero, List.set_cons_succ]
    refine .step (some 24) rfl rfl (by kernel_rfl) (Gives.call (args := [.agg (EL (mulL u (mulL (mulL (mulL (mulL v v) v) (mulL (mulL v v) v)) v))).toArray, .agg (By eRt 32).toArray]) rfl Tryd.func36 (by kernel_rfl) (by kernel_rfl) rfl (fun w' h => pow_any eRt (mulL_ok hu (mulL_ok (mulL_ok (mulL_ok (mulL_ok hv hv) hv) (mulL_ok (mulL_ok hv hv) hv)) hv)) w')) ?_
    simp only [Act.put, List.setIfInBounds_toArray, List.set_cons_zero, List.set_cons_succ]
    refine .step (some 25) rfl rfl (by kernel_rfl) (Gives.call (args := [.agg (EL (mulL u (mulL (mulL v v) v))).toArray, .agg (EL (powL (mulL u (mulL (mulL (mulL (mulL v v) v) (mulL (mulL v v) v)) v)) eRt)).toArray]) rfl Tryd.func31 (by kernel_rfl) (by kernel_rfl) rfl (fun w' h => mul_any (mulL_ok hu (mulL_ok (mulL_ok hv hv) hv)) (powL_ok (mulL_ok hu (mulL_ok (mulL_ok (mulL_ok (mulL_ok hv hv) hv) (mulL_ok (mulL_ok hv hv) hv)) hv)) _) w')) ?_
    simp only [Act.put, List.setIfInBounds_toArray, List.set_cons_zero, List.set_cons_succ]
    exact .nil
  case hk3 => kernel_rfl
  case e5 => rfl
  case e6 => rfl
  case h3 =>
  intro W3 hb
  have hgot := setRow_heap W3 (w.heap.size + 1 + 1) _ (EL (mulL (mulL u (mulL (mulL v v) v)) (powL (mulL u (mulL (mulL (mulL (mulL v v) v) (mulL (mulL v v) v)) v)) eRt))).toArray _ _ (l3.belowAll hb)
  go_wp2_with fail
  refine bodyPost_ret (results_cell_row (by rfl) _ _ (w.heap.size + 1 + 1) _ _ _ _ (by rfl) hgot Tryd.underlying26 rfl (el_info _)) rfl ?_
  exact ⟨rfl, below_setRow (lb.trans (hb.mono lb.size)) (by omega) _⟩

set_option maxHeartbeats 1600000 in
theorem fits_any {r u v : Lm} (hr : r.ok) (hu : u.ok) (hv : v.ok) (w : World) :
    Calls Tryd.prog 75 #[.agg (EL r).toArray, .agg (EL u).toArray, .agg (EL v).toArray] w fun e w' => e = .returned (.bool (fitB r u v)) ∧ Below w.heap.size w w' := by
  unfold fitB
  have hr1 := ((Row.new w (EL r) 26).alloc (.cells (EL u).toArray 26)).alloc (.cells (EL v).toArray 26)
  have hr2 := (Row.new1 w (.cells (EL r).toArray 26) (EL u) 26).alloc (.cells (EL v).toArray 26)
  have hr3 := Row.new2 w (.cells (EL r).toArray 26) (.cells (EL u).toArray 26) (EL v) 26
  have hb0 := Below.alloc3 w (.cells (EL r).toArray 26) (.cells (EL u).toArray 26) (.cells (EL v).toArray 26)
  go_enter Tryd.func75, Tryd.ntmps75
  go_wp2_with fail
  generalize ((w.alloc (.cells (EL r).toArray 26)).alloc (.cells (EL u).toArray 26)).alloc (.cells (EL v).toArray 26) = W0 at *
  refine wp_flat_none (aD := ?aD) (S := fun w' => Below W0.heap.size W0 w') (vs := [(0, .agg (EL r).toArray), (1, .agg (EL r).toArray), (2, .agg (EL (mulL r r)).toArray), (3, .agg (EL v).toArray), (4, .agg (EL (mulL (mulL r r) v)).toArray), (5, .agg (EL u).toArray), (6, .bool (decide (nu (mulL (mulL r r) v) = nu u))), (7, .bool (decide (nu (mulL (mulL r r) v) = nu u)))]) (by kernel_rfl) ((Below.refl _ _).drew) (fun _ _ h k => S_trans h k) ?hD ?hk ?h
  case hD =>
    refine .step (some 7) rfl rfl (by kernel_rfl) (Gives.load_row 26 (.tmp 3) rfl (w.heap.size) rfl 26 _ (fun w' h => hr1.belowAll h) Tryd.underlying26 rfl (el_info _)) ?_
    simp only [Act.put, List.setIfInBounds_toArray, List.set_cons_zero, List.set_cons_succ]
    refine .step (some 8) rfl rfl (by kernel_rfl) (Gives.load_row 26 (.tmp 3) rfl (w.heap.size) rfl 26 _ (fun w' h => hr1.belowAll h) Tryd.underlying26 rfl (el_info _)) ?_
    simp only [Act.put, List.setIfInBounds_toArray, List.set_cons_zero, List.set_cons_succ]
    refine .step (some 9) rfl rfl (by kernel_rfl) (Gives.call (args := [.agg (EL r).toArray, .agg (EL r).toArray]) rfl Tryd.func31 (by kernel_rfl) (by kernel_rfl) rfl (fun w' h => mul_any hr hr w')) ?_
    simp only [Act.put, List.setIfInBounds_toArray, List.set_cons_zero, List.set_cons_succ]
    refine .step (some 10) rfl rfl (by kernel_rfl) (Gives.load_row 26 (.tmp 5) rfl (w.heap.size + 1 + 1) rfl 26 _ (fun w' h => hr3.belowAll h) Tryd.underlying26 rfl (el_info _)) ?_
    simp only [Act.put, List.setIfInBounds_toArray, List.set_cons_zero, List.set_cons_succ]
    refine .step (some 11) rfl rfl (by kernel_rfl) (Gives.call (args := [.agg (EL (mulL r r)).toArray, .agg (EL v).toArray]) rfl Tryd.func31 (by kernel_rfl) (by kernel_rfl) rfl (fun w' h => mul_any (mulL_ok hr hr) hv w')) ?_
    simp only [Act.put, List.setIfInBounds_toArray, List.set_cons_zero, List.set_cons_succ]
    refine .step (some 12) rfl rfl (by kernel_rfl) (Gives.load_row 26 (.tmp 4) rfl (w.heap.size + 1) rfl 26 _ (fun w' h => hr2.belowAll h) Tryd.underlying26 rfl (el_info _)) ?_
    simp only [Act.put, List.setIfInBounds_toArray, List.set_cons_zero, List.set_cons_succ]
    refine .step (some 13) rfl rfl (by kernel_rfl) (Gives.call (args := [.agg (EL (mulL (mulL r r) v)).toArray, .agg (EL u).toArray]) rfl Tryd.func21 (by kernel_rfl) (by kernel_rfl) rfl (fun w' h => same_any (mulL_ok (mulL_ok hr hr) hv) hu w')) ?_
    simp only [Act.put, List.setIfInBounds_toArray, List.set_cons_zero, List.set_cons_succ]
    refine .step (some 6) rfl rfl (by kernel_rfl) (Gives.assign (x := (.tmp 13)) rfl rfl) ?_
    simp only [Act.put, List.setIfInBounds_toArray, List.set_cons_zero, List.set_cons_succ]
    exact .nil
  case hk => kernel_rfl
  case h =>
  intro W1 hb
  go_wp2_with fail
  go_ret
  exact ⟨rfl, hb0.trans (hb.mono hb0.size)⟩

end Go.Proofs.YthpbipebpaeagaaDoor
