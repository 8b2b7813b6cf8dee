/- The statement FieldReads: the walk. -/
import Derived.Test.YthpbipebpaeagaaDoorNu
namespace Go.Proofs.YthpbipebpaeagaaDoor
set_option maxRecDepth 100000
set_option linter.unusedSimpArgs false
open Go.RowKit

set_option maxHeartbeats 3200000 in
theorem reads_law (b c : Nat) (hbn : b < 256 ^ 32) (w : World) (hq : Gl w) :
    Calls Tryd.prog 3 #[.agg (By b 32).toArray, .agg (By c 32).toArray] w fun e w' => e = .returned (.bool true) ∧ Below w.heap.size w w' := by
  have hr1 := (Row.new w (By b 32) 22).alloc (.cells (By c 32).toArray 22)
  have hr2 := Row.new1 w (.cells (By b 32).toArray 22) (By c 32) 22
  have hb0 := Below.alloc2 w (.cells (By b 32).toArray 22) (.cells (By c 32).toArray 22)
  have hg0 := hq.belowAll hb0
  go_enter Tryd.func3, Tryd.ntmps3
  go_wp2_with fail
  generalize (w.alloc (.cells (By b 32).toArray 22)).alloc (.cells (By c 32).toArray 22) = W0 at *
  refine wp_vars_three (aD := ?aD1) (B := W0.heap.size) (S := fun w' => Below W0.heap.size W0 w') (k1 := 6) (s1 := 9) (T1 := 26) (L1 := 26) (z1 := EL zeL) (c1 := EL (ofB b)) (x1 := .tmp 5) (y1 := .tmp 9) (k2 := 7) (s2 := 10) (T2 := 30) (L2 := 30) (z2 := Nw 0) (c2 := Nw (nu (ofB b))) (x2 := .tmp 6) (y2 := .tmp 11) (k3 := 8) (s3 := 11) (T3 := 30) (L3 := 30) (z3 := Nw 0) (c3 := Nw (nu (ofB c))) (x3 := .tmp 7) (y3 := .tmp 13)
    (vs := [(0, .agg (By b 32).toArray), (1, .agg (EL (ofB b)).toArray), (2, .agg (By b 32).toArray), (3, .agg (Nw (nu (ofB b))).toArray), (4, .agg (By c 32).toArray), (5, .agg (Nw (nu (ofB c))).toArray)]) (by kernel_rfl) ((Below.refl _ _).drew) (fun _ _ h k => S_trans h k) (fun _ _ cs h hg => S_row h hg cs) (fun _ h => h.size) ?hD1 (.of rfl rfl rfl (fun w' => el_alloc w')) (.of rfl rfl rfl (fun w' => nw_alloc w')) (.of rfl rfl rfl (fun w' => nw_alloc w')) ?hk1 (by decide) (by decide) (by decide) rfl rfl rfl rfl rfl rfl (some 5) (some 6) (some 7) rfl rfl rfl rfl rfl rfl rfl rfl rfl ?e1 ?f1 ?e2 ?f2 ?e3 ?f3 (el_info _) (EL_sz _ _) (EL_one _) (nw_info _) (Nw_sz _ _) (Nw_one _) (nw_info _) (Nw_sz _ _) (Nw_one _) ?h1
  case hD1 =>
    refine .step (some 8) rfl rfl (by kernel_rfl) (Gives.load_row 22 (.tmp 2) rfl (w.heap.size) rfl 22 _ (fun w' h => hr1.belowAll h) Tryd.underlying22 rfl (by_info _)) ?_
    simp only [Act.put, List.setIfInBounds_toArray, List.set_cons_zero, List.set_cons_succ]
    refine .step (some 9) rfl rfl (by kernel_rfl) (Gives.call (args := [.agg (By b 32).toArray]) rfl Tryd.func14 (by kernel_rfl) (by kernel_rfl) rfl (fun w' h => of_any b w')) ?_
    simp only [Act.put, List.setIfInBounds_toArray, List.set_cons_zero, List.set_cons_succ]
    refine .step (some 10) rfl rfl (by kernel_rfl) (Gives.load_row 22 (.tmp 2) rfl (w.heap.size) rfl 22 _ (fun w' h => hr1.belowAll h) Tryd.underlying22 rfl (by_info _)) ?_
    simp only [Act.put, List.setIfInBounds_toArray, List.set_cons_zero, List.set_cons_succ]
    refine .step (some 11) rfl rfl (by kernel_rfl) (Gives.call (args := [.agg (By b 32).toArray]) rfl Tryd.func15 (by kernel_rfl) (by kernel_rfl) rfl (fun w' h => ofr_nu b w')) ?_
    simp only [Act.put, List.setIfInBounds_toArray, List.set_cons_zero, List.set_cons_succ]
    refine .step (some 12) rfl rfl (by kernel_rfl) (Gives.load_row 22 (.tmp 3) rfl (w.heap.size + 1) rfl 22 _ (fun w' h => hr2.belowAll h) Tryd.underlying22 rfl (by_info _)) ?_
    simp only [Act.put, List.setIfInBounds_toArray, List.set_cons_zero, List.set_cons_succ]
    refine .step (some 13) rfl rfl (by kernel_rfl) (Gives.call (args := [.agg (By c 32).toArray]) rfl Tryd.func15 (by kernel_rfl) (by kernel_rfl) rfl (fun w' h => ofr_nu c w')) ?_
    simp only [Act.put, List.setIfInBounds_toArray, List.set_cons_zero, List.set_cons_succ]
    exact .nil
  case hk1 => kernel_rfl
  case e1 => intro p q r; rfl
  case f1 => intro p q r; rfl
  case e2 => intro p q r; rfl
  case f2 => intro p q r; rfl
  case e3 => intro p q r; rfl
  case f3 => intro p q r; rfl
  case h1 =>
  intro p q r W1 hb hgp hgq hgr hpq hpr hqr hp0 hq0 hr0
  simp only [Act.put, List.setIfInBounds_toArray, List.set_cons_zero, List.set_cons_succ]
  have hgl := hg0.belowAll hb
  have hw1 := hb0.trans (hb.mono hb0.size)
  have hr3 := hr1.belowAll hb
  have hr4 := hr2.belowAll hb
  clear hr1 hr2 hb0 hg0 hb
  have hx := ofB_ok b
  have hy := ofB_ok c
  have HOFC := Lib.hid (fun wx => of_any c wx)
  generalize ofB b = x at *
  generalize ofB c = y at *
  have hbW : b < W8 := hbn
  go_wp2_with fail
  refine wp_flat_none (aD := ?aD2) (S := fun w' => Below W1.heap.size W1 w') (vs := [(0, .agg (EL x).toArray), (1, .agg (By (nu x) 32).toArray), (2, .agg (Nw (nu x)).toArray), (3, .agg (By (nu x) 32).toArray), (4, .bool true), (5, .bool true), (6, .agg (EL x).toArray), (7, .bool (decide (nu x % 2 = 1))), (8, .agg (Nw (nu x)).toArray), (9, .bool (decide (nu x % 2 = 1))), (10, .bool true), (11, .bool true), (12, .bool true), (13, .agg (EL x).toArray), (14, .bool (decide (nu x = 0))), (15, .agg (Nw (nu x)).toArray), (16, .agg (Nw 0).toArray), (17, .bool (decide (nu x = 0))), (18, .bool true), (19, .bool true), (20, .bool true), (21, .agg (EL x).toArray), (22, .agg (By c 32).toArray), (23, .agg (EL y).toArray), (24, .bool (decide (nu x = nu y))), (25, .agg (Nw (nu x)).toArray), (26, .agg (Nw (nu y)).toArray), (27, .bool (decide (nu x = nu y))), (28, .bool true), (29, .bool true), (30, .bool true), (31, .agg (By b 32).toArray), (32, .bool (decide (b < pp))), (33, .agg (By b 32).toArray), (34, .agg (Nw b).toArray), (35, .agg (Nw pp).toArray), (36, .bool (decide (b < pp))), (37, .bool true), (38, .bool true), (39, .bool true), (40, .bool true), (41, .bool true), (42, .bool true)]) (by kernel_rfl) ((Below.refl _ _).drew) (fun _ _ h k => S_trans h k) ?hD2 ?hk2 ?h2
  case hD2 =>
    refine .step (some 14) rfl rfl (by kernel_rfl) (Gives.load_row 26 (.tmp 5) rfl (p) rfl 26 _ (fun w' h => hp0.belowAll h) Tryd.underlying26 rfl (el_info _)) ?_
    simp only [Act.put, List.setIfInBounds_toArray, List.set_cons_zero, List.set_cons_succ]
    refine .step (some 15) rfl rfl (by kernel_rfl) (Gives.call (args := [.agg (EL x).toArray]) rfl Tryd.func16 (by kernel_rfl) (by kernel_rfl) rfl (fun w' h => bytes_any hx w')) ?_
    simp only [Act.put, List.setIfInBounds_toArray, List.set_cons_zero, List.set_cons_succ]
    refine .step (some 16) rfl rfl (by kernel_rfl) (Gives.load_row 30 (.tmp 6) rfl (q) rfl 30 _ (fun w' h => hq0.belowAll h) Tryd.underlying30 rfl (nw_info _)) ?_
    simp only [Act.put, List.setIfInBounds_toArray, List.set_cons_zero, List.set_cons_succ]
    refine .step (some 17) rfl rfl (by kernel_rfl) (Gives.call (args := [.agg (Nw (nu x)).toArray]) rfl Tryd.func17 (by kernel_rfl) (by kernel_rfl) rfl (fun w' h => rbytes_ref (nu x) w')) ?_
    simp only [Act.put, List.setIfInBounds_toArray, List.set_cons_zero, List.set_cons_succ]
    refine .step (some 18) rfl rfl (by kernel_rfl) (Gives.binop .eql 22 22 (.tmp 15) (.tmp 17) rfl (.agg (By (nu x) 32).toArray) (.agg (By (nu x) 32).toArray) _ rfl rfl (fun w' => bgrd _ _ _ _ _ w') (fun w' => beq_same rfl w')) ?_
    simp only [Act.put, List.setIfInBounds_toArray, List.set_cons_zero, List.set_cons_succ]
    refine .step (some 19) rfl rfl (by kernel_rfl) (Gives.move (x := (.tmp 18)) rfl rfl) ?_
    simp only [Act.put, List.setIfInBounds_toArray, List.set_cons_zero, List.set_cons_succ]
    refine .step (some 20) rfl rfl (by kernel_rfl) (Gives.load_row 26 (.tmp 5) rfl (p) rfl 26 _ (fun w' h => hp0.belowAll h) Tryd.underlying26 rfl (el_info _)) ?_
    simp only [Act.put, List.setIfInBounds_toArray, List.set_cons_zero, List.set_cons_succ]
    refine .step (some 21) rfl rfl (by kernel_rfl) (Gives.call (args := [.agg (EL x).toArray]) rfl Tryd.func18 (by kernel_rfl) (by kernel_rfl) rfl (fun w' h => odd_any hx w')) ?_
    simp only [Act.put, List.setIfInBounds_toArray, List.set_cons_zero, List.set_cons_succ]
    refine .step (some 22) rfl rfl (by kernel_rfl) (Gives.load_row 30 (.tmp 6) rfl (q) rfl 30 _ (fun w' h => hq0.belowAll h) Tryd.underlying30 rfl (nw_info _)) ?_
    simp only [Act.put, List.setIfInBounds_toArray, List.set_cons_zero, List.set_cons_succ]
    refine .step (some 23) rfl rfl (by kernel_rfl) (Gives.call (args := [.agg (Nw (nu x)).toArray]) rfl Tryd.func19 (by kernel_rfl) (by kernel_rfl) rfl (fun w' h => oddr_ref (nu x) w')) ?_
    simp only [Act.put, List.setIfInBounds_toArray, List.set_cons_zero, List.set_cons_succ]
    refine .step (some 24) rfl rfl (by kernel_rfl) (Gives.binop .eql 4 4 (.tmp 21) (.tmp 23) rfl (.bool (decide (nu x % 2 = 1))) (.bool (decide (nu x % 2 = 1))) _ rfl rfl (fun w' => grd_bool _ _ _ w') (fun w' => bool_eq _ w')) ?_
    simp only [Act.put, List.setIfInBounds_toArray, List.set_cons_zero, List.set_cons_succ]
    refine .step (some 25) rfl rfl (by kernel_rfl) (Gives.pick (.tmp 19) (.tmp 24) (.const (.bool false)) rfl true (.bool true) rfl rfl) ?_
    simp only [Act.put, List.setIfInBounds_toArray, List.set_cons_zero, List.set_cons_succ]
    refine .step (some 26) rfl rfl (by kernel_rfl) (Gives.move (x := (.tmp 25)) rfl rfl) ?_
    simp only [Act.put, List.setIfInBounds_toArray, List.set_cons_zero, List.set_cons_succ]
    refine .step (some 27) rfl rfl (by kernel_rfl) (Gives.load_row 26 (.tmp 5) rfl (p) rfl 26 _ (fun w' h => hp0.belowAll h) Tryd.underlying26 rfl (el_info _)) ?_
    simp only [Act.put, List.setIfInBounds_toArray, List.set_cons_zero, List.set_cons_succ]
    refine .step (some 28) rfl rfl (by kernel_rfl) (Gives.call (args := [.agg (EL x).toArray]) rfl Tryd.func20 (by kernel_rfl) (by kernel_rfl) rfl (fun w' h => zero_any hx w')) ?_
    simp only [Act.put, List.setIfInBounds_toArray, List.set_cons_zero, List.set_cons_succ]
    refine .step (some 29) rfl rfl (by kernel_rfl) (Gives.load_row 30 (.tmp 6) rfl (q) rfl 30 _ (fun w' h => hq0.belowAll h) Tryd.underlying30 rfl (nw_info _)) ?_
    simp only [Act.put, List.setIfInBounds_toArray, List.set_cons_zero, List.set_cons_succ]
    refine .step (some 30) rfl rfl (by kernel_rfl) (Gives.build0 30 rfl _ (fun w' => nw_build w')) ?_
    simp only [Act.put, List.setIfInBounds_toArray, List.set_cons_zero, List.set_cons_succ]
    refine .step (some 31) rfl rfl (by kernel_rfl) (Gives.binop .eql 30 30 (.tmp 29) (.tmp 30) rfl (.agg (Nw (nu x)).toArray) (.agg (Nw 0).toArray) _ rfl rfl (fun w' => ngrd _ _ _ _ _ w') (fun w' => neq_zero x w')) ?_
    simp only [Act.put, List.setIfInBounds_toArray, List.set_cons_zero, List.set_cons_succ]
    refine .step (some 32) rfl rfl (by kernel_rfl) (Gives.binop .eql 4 4 (.tmp 28) (.tmp 31) rfl (.bool (decide (nu x = 0))) (.bool (decide (nu x = 0))) _ rfl rfl (fun w' => grd_bool _ _ _ w') (fun w' => bool_eq _ w')) ?_
    simp only [Act.put, List.setIfInBounds_toArray, List.set_cons_zero, List.set_cons_succ]
    refine .step (some 33) rfl rfl (by kernel_rfl) (Gives.pick (.tmp 26) (.tmp 32) (.const (.bool false)) rfl true (.bool true) rfl rfl) ?_
    simp only [Act.put, List.setIfInBounds_toArray, List.set_cons_zero, List.set_cons_succ]
    refine .step (some 34) rfl rfl (by kernel_rfl) (Gives.move (x := (.tmp 33)) rfl rfl) ?_
    simp only [Act.put, List.setIfInBounds_toArray, List.set_cons_zero, List.set_cons_succ]
    refine .step (some 35) rfl rfl (by kernel_rfl) (Gives.load_row 26 (.tmp 5) rfl (p) rfl 26 _ (fun w' h => hp0.belowAll h) Tryd.underlying26 rfl (el_info _)) ?_
    simp only [Act.put, List.setIfInBounds_toArray, List.set_cons_zero, List.set_cons_succ]
    refine .step (some 36) rfl rfl (by kernel_rfl) (Gives.load_row 22 (.tmp 3) rfl (w.heap.size + 1) rfl 22 _ (fun w' h => hr4.belowAll h) Tryd.underlying22 rfl (by_info _)) ?_
    simp only [Act.put, List.setIfInBounds_toArray, List.set_cons_zero, List.set_cons_succ]
    refine .step (some 37) rfl rfl (by kernel_rfl) (Gives.call (args := [.agg (By c 32).toArray]) rfl Tryd.func14 (by kernel_rfl) (by kernel_rfl) rfl (fun w' h => (HOFC.out w'))) ?_
    simp only [Act.put, List.setIfInBounds_toArray, List.set_cons_zero, List.set_cons_succ]
    refine .step (some 38) rfl rfl (by kernel_rfl) (Gives.call (args := [.agg (EL x).toArray, .agg (EL y).toArray]) rfl Tryd.func21 (by kernel_rfl) (by kernel_rfl) rfl (fun w' h => same_any hx hy w')) ?_
    simp only [Act.put, List.setIfInBounds_toArray, List.set_cons_zero, List.set_cons_succ]
    refine .step (some 39) rfl rfl (by kernel_rfl) (Gives.load_row 30 (.tmp 6) rfl (q) rfl 30 _ (fun w' h => hq0.belowAll h) Tryd.underlying30 rfl (nw_info _)) ?_
    simp only [Act.put, List.setIfInBounds_toArray, List.set_cons_zero, List.set_cons_succ]
    refine .step (some 40) rfl rfl (by kernel_rfl) (Gives.load_row 30 (.tmp 7) rfl (r) rfl 30 _ (fun w' h => hr0.belowAll h) Tryd.underlying30 rfl (nw_info _)) ?_
    simp only [Act.put, List.setIfInBounds_toArray, List.set_cons_zero, List.set_cons_succ]
    refine .step (some 41) rfl rfl (by kernel_rfl) (Gives.binop .eql 30 30 (.tmp 39) (.tmp 40) rfl (.agg (Nw (nu x)).toArray) (.agg (Nw (nu y)).toArray) _ rfl rfl (fun w' => ngrd _ _ _ _ _ w') (fun w' => neq_two x y w')) ?_
    simp only [Act.put, List.setIfInBounds_toArray, List.set_cons_zero, List.set_cons_succ]
    refine .step (some 42) rfl rfl (by kernel_rfl) (Gives.binop .eql 4 4 (.tmp 38) (.tmp 41) rfl (.bool (decide (nu x = nu y))) (.bool (decide (nu x = nu y))) _ rfl rfl (fun w' => grd_bool _ _ _ w') (fun w' => bool_eq _ w')) ?_
    simp only [Act.put, List.setIfInBounds_toArray, List.set_cons_zero, List.set_cons_succ]
    refine .step (some 43) rfl rfl (by kernel_rfl) (Gives.pick (.tmp 34) (.tmp 42) (.const (.bool false)) rfl true (.bool true) rfl rfl) ?_
    simp only [Act.put, List.setIfInBounds_toArray, List.set_cons_zero, List.set_cons_succ]
    refine .step (some 44) rfl rfl (by kernel_rfl) (Gives.move (x := (.tmp 43)) rfl rfl) ?_
    simp only [Act.put, List.setIfInBounds_toArray, List.set_cons_zero, List.set_cons_succ]
    refine .step (some 45) rfl rfl (by kernel_rfl) (Gives.load_row 22 (.tmp 2) rfl (w.heap.size) rfl 22 _ (fun w' h => hr3.belowAll h) Tryd.underlying22 rfl (by_info _)) ?_
    simp only [Act.put, List.setIfInBounds_toArray, List.set_cons_zero, List.set_cons_succ]
    refine .step (some 46) rfl rfl (by kernel_rfl) (Gives.call (args := [.agg (By b 32).toArray]) rfl Tryd.func22 (by kernel_rfl) (by kernel_rfl) rfl (fun w' h => canonical_is b hbn w')) ?_
    simp only [Act.put, List.setIfInBounds_toArray, List.set_cons_zero, List.set_cons_succ]
    refine .step (some 47) rfl rfl (by kernel_rfl) (Gives.load_row 22 (.tmp 2) rfl (w.heap.size) rfl 22 _ (fun w' h => hr3.belowAll h) Tryd.underlying22 rfl (by_info _)) ?_
    simp only [Act.put, List.setIfInBounds_toArray, List.set_cons_zero, List.set_cons_succ]
    refine .step (some 48) rfl rfl (by kernel_rfl) (Gives.call (args := [.agg (By b 32).toArray]) rfl Tryd.func24 (by kernel_rfl) (by kernel_rfl) rfl (fun w' h => raw_ref b hbn w')) ?_
    simp only [Act.put, List.setIfInBounds_toArray, List.set_cons_zero, List.set_cons_succ]
    refine .step (some 49) rfl rfl (by kernel_rfl) (Gives.call (args := []) rfl Tryd.func25 (by kernel_rfl) (by kernel_rfl) rfl (fun w' h => P_any w')) ?_
    simp only [Act.put, List.setIfInBounds_toArray, List.set_cons_zero, List.set_cons_succ]
    refine .step (some 50) rfl rfl (by kernel_rfl) (Gives.call (args := [.agg (Nw b).toArray, .agg (Nw pp).toArray]) rfl Tryd.func23 (by kernel_rfl) (by kernel_rfl) rfl (fun w' h => less_ref b pp hbW pp_W8 w')) ?_
    simp only [Act.put, List.setIfInBounds_toArray, List.set_cons_zero, List.set_cons_succ]
    refine .step (some 51) rfl rfl (by kernel_rfl) (Gives.binop .eql 4 4 (.tmp 46) (.tmp 50) rfl (.bool (decide (b < pp))) (.bool (decide (b < pp))) _ rfl rfl (fun w' => grd_bool _ _ _ w') (fun w' => bool_eq _ w')) ?_
    simp only [Act.put, List.setIfInBounds_toArray, List.set_cons_zero, List.set_cons_succ]
    refine .step (some 52) rfl rfl (by kernel_rfl) (Gives.pick (.tmp 44) (.tmp 51) (.const (.bool false)) rfl true (.bool true) rfl rfl) ?_
    simp only [Act.put, List.setIfInBounds_toArray, List.set_cons_zero, List.set_cons_succ]
    refine .step (some 53) rfl rfl (by kernel_rfl) (Gives.move (x := (.tmp 52)) rfl rfl) ?_
    simp only [Act.put, List.setIfInBounds_toArray, List.set_cons_zero, List.set_cons_succ]
    refine .step (some 54) rfl rfl (by kernel_rfl) (Gives.call (args := []) rfl Tryd.func26 (by kernel_rfl) (by kernel_rfl) rfl (fun w' h => awake_any w' (hgl.belowAll h))) ?_
    simp only [Act.put, List.setIfInBounds_toArray, List.set_cons_zero, List.set_cons_succ]
    refine .step (some 55) rfl rfl (by kernel_rfl) (Gives.pick (.tmp 53) (.tmp 54) (.const (.bool false)) rfl true (.bool true) rfl rfl) ?_
    simp only [Act.put, List.setIfInBounds_toArray, List.set_cons_zero, List.set_cons_succ]
    refine .step (some 4) rfl rfl (by kernel_rfl) (Gives.assign (x := (.tmp 55)) rfl rfl) ?_
    simp only [Act.put, List.setIfInBounds_toArray, List.set_cons_zero, List.set_cons_succ]
    exact .nil
  case hk2 => kernel_rfl
  case h2 =>
  intro W2 hb2
  go_wp2_with fail
  go_ret
  exact ⟨rfl, hw1.trans (hb2.mono hw1.size)⟩

end Go.Proofs.YthpbipebpaeagaaDoor
