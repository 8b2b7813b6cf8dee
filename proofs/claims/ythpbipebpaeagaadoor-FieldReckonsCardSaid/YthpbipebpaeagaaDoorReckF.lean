/- The statement FieldReckons: the walk. -/
import Derived.Test.YthpbipebpaeagaaDoorNu
import Derived.Test.YthpbipebpaeagaaDoorFour
namespace Go.Proofs.YthpbipebpaeagaaDoor
set_option maxRecDepth 100000
set_option linter.unusedSimpArgs false
open Go.RowKit

set_option maxHeartbeats 3200000 in
theorem reckons_law (a b : Nat) (w : World) (hq : Gl w) :
    Calls Tryd.prog 4 #[.agg (By a 32).toArray, .agg (By b 32).toArray] w fun e w' => e = .returned (.bool true) ∧ Below w.heap.size w w' := by
  have hr1 := (Row.new w (By a 32) 22).alloc (.cells (By b 32).toArray 22)
  have hr2 := Row.new1 w (.cells (By a 32).toArray 22) (By b 32) 22
  have hb0 := Below.alloc2 w (.cells (By a 32).toArray 22) (.cells (By b 32).toArray 22)
  have hg0 := hq.belowAll hb0
  go_enter Tryd.func4, Tryd.ntmps4
  go_wp2_with fail
  generalize (w.alloc (.cells (By a 32).toArray 22)).alloc (.cells (By b 32).toArray 22) = W0 at *
  refine wp_vars_four (aD := ?aD1) (B := W0.heap.size) (S := fun w' => Below W0.heap.size W0 w') (k1 := 8) (s1 := 12) (T1 := 26) (L1 := 26) (z1 := EL zeL) (c1 := EL (ofB a)) (x1 := .tmp 5) (y1 := .tmp 10) (k2 := 9) (s2 := 13) (T2 := 26) (L2 := 26) (z2 := EL zeL) (c2 := EL (ofB b)) (x2 := .tmp 6) (y2 := .tmp 12) (k3 := 10) (s3 := 14) (T3 := 30) (L3 := 30) (z3 := Nw 0) (c3 := Nw (nu (ofB a))) (x3 := .tmp 7) (y3 := .tmp 14) (k4 := 11) (s4 := 15) (T4 := 30) (L4 := 30) (z4 := Nw 0) (c4 := Nw (nu (ofB b))) (x4 := .tmp 8) (y4 := .tmp 16)
    (vs := [(0, .agg (By a 32).toArray), (1, .agg (EL (ofB a)).toArray), (2, .agg (By b 32).toArray), (3, .agg (EL (ofB b)).toArray), (4, .agg (By a 32).toArray), (5, .agg (Nw (nu (ofB a))).toArray), (6, .agg (By b 32).toArray), (7, .agg (Nw (nu (ofB b))).toArray)]) (by kernel_rfl) ((Below.refl _ _).drew) (fun _ _ h k => S_trans h k) (fun _ _ cs h hg => S_row h hg cs) (fun _ h => h.size) ?hD1 (.of rfl rfl rfl (fun w' => el_alloc w')) (.of rfl rfl rfl (fun w' => el_alloc w')) (.of rfl rfl rfl (fun w' => nw_alloc w')) (.of rfl rfl rfl (fun w' => nw_alloc w')) ?hk1 (by decide) (by decide) (by decide) (by decide) (by decide) (by decide) rfl rfl rfl rfl rfl rfl rfl rfl (some 5) (some 6) (some 7) (some 8) rfl rfl rfl rfl rfl rfl rfl rfl rfl rfl rfl rfl ?e1 ?f1 ?e2 ?f2 ?e3 ?f3 ?e4 ?f4 (el_info _) (EL_sz _ _) (EL_one _) (el_info _) (EL_sz _ _) (EL_one _) (nw_info _) (Nw_sz _ _) (Nw_one _) (nw_info _) (Nw_sz _ _) (Nw_one _) ?h1
  case hD1 =>
    refine .step (some 9) rfl rfl (by kernel_rfl) (Gives.load_row 22 (.tmp 2) rfl (w.heap.size) rfl 22 _ (fun w' h => hr1.belowAll h) Tryd.underlying22 rfl (by_info _)) ?_
    simp only [Act.put, List.setIfInBounds_toArray, List.set_cons_zero, List.set_cons_succ]
    refine .step (some 10) rfl rfl (by kernel_rfl) (Gives.call (args := [.agg (By a 32).toArray]) rfl Tryd.func14 (by kernel_rfl) (by kernel_rfl) rfl (fun w' h => of_any a w')) ?_
    simp only [Act.put, List.setIfInBounds_toArray, List.set_cons_zero, List.set_cons_succ]
    refine .step (some 11) rfl rfl (by kernel_rfl) (Gives.load_row 22 (.tmp 3) rfl (w.heap.size + 1) rfl 22 _ (fun w' h => hr2.belowAll h) Tryd.underlying22 rfl (by_info _)) ?_
    simp only [Act.put, List.setIfInBounds_toArray, List.set_cons_zero, List.set_cons_succ]
    refine .step (some 12) rfl rfl (by kernel_rfl) (Gives.call (args := [.agg (By b 32).toArray]) rfl Tryd.func14 (by kernel_rfl) (by kernel_rfl) rfl (fun w' h => of_any b w')) ?_
    simp only [Act.put, List.setIfInBounds_toArray, List.set_cons_zero, List.set_cons_succ]
    refine .step (some 13) rfl rfl (by kernel_rfl) (Gives.load_row 22 (.tmp 2) rfl (w.heap.size) rfl 22 _ (fun w' h => hr1.belowAll h) Tryd.underlying22 rfl (by_info _)) ?_
    simp only [Act.put, List.setIfInBounds_toArray, List.set_cons_zero, List.set_cons_succ]
    refine .step (some 14) rfl rfl (by kernel_rfl) (Gives.call (args := [.agg (By a 32).toArray]) rfl Tryd.func15 (by kernel_rfl) (by kernel_rfl) rfl (fun w' h => ofr_nu a w')) ?_
    simp only [Act.put, List.setIfInBounds_toArray, List.set_cons_zero, List.set_cons_succ]
    refine .step (some 15) rfl rfl (by kernel_rfl) (Gives.load_row 22 (.tmp 3) rfl (w.heap.size + 1) rfl 22 _ (fun w' h => hr2.belowAll h) Tryd.underlying22 rfl (by_info _)) ?_
    simp only [Act.put, List.setIfInBounds_toArray, List.set_cons_zero, List.set_cons_succ]
    refine .step (some 16) rfl rfl (by kernel_rfl) (Gives.call (args := [.agg (By b 32).toArray]) rfl Tryd.func15 (by kernel_rfl) (by kernel_rfl) rfl (fun w' h => ofr_nu b w')) ?_
    simp only [Act.put, List.setIfInBounds_toArray, List.set_cons_zero, List.set_cons_succ]
    exact .nil
  case hk1 => kernel_rfl
  case e1 => intro p q r s; rfl
  case f1 => intro p q r s; rfl
  case e2 => intro p q r s; rfl
  case f2 => intro p q r s; rfl
  case e3 => intro p q r s; rfl
  case f3 => intro p q r s; rfl
  case e4 => intro p q r s; rfl
  case f4 => intro p q r s; rfl
  case h1 =>
  intro p q r s W1 hb hgp hgq hgr hgs hpq hpr hps hqr hqs hrs hp0 hq0 hr0 hs0
  simp only [Act.put, List.setIfInBounds_toArray, List.set_cons_zero, List.set_cons_succ]
  have hgl := hg0.belowAll hb
  have hw1 := hb0.trans (hb.mono hb0.size)
  clear hr1 hr2 hb0 hg0 hb
  have hx := ofB_ok a
  have hy := ofB_ok b
  generalize ofB a = x at *
  generalize ofB b = y at *
  go_wp2_with fail
  refine wp_flat_none (aD := ?aD2) (S := fun w' => Below W1.heap.size W1 w') (vs := [(0, .agg (EL x).toArray), (1, .agg (EL y).toArray), (2, .agg (EL (addL x y)).toArray), (3, .agg (By (nu (addL x y)) 32).toArray), (4, .agg (Nw (nu x)).toArray), (5, .agg (Nw (nu y)).toArray), (6, .agg (Nw (nu (addL x y))).toArray), (7, .agg (By (nu (addL x y)) 32).toArray), (8, .bool true), (9, .bool true), (10, .agg (EL x).toArray), (11, .agg (EL y).toArray), (12, .agg (EL (subL x y)).toArray), (13, .agg (By (nu (subL x y)) 32).toArray), (14, .agg (Nw (nu x)).toArray), (15, .agg (Nw (nu y)).toArray), (16, .agg (Nw (nu (subL x y))).toArray), (17, .agg (By (nu (subL x y)) 32).toArray), (18, .bool true), (19, .bool true), (20, .bool true), (21, .agg (EL x).toArray), (22, .agg (EL y).toArray), (23, .agg (EL (mulL x y)).toArray), (24, .agg (By (nu (mulL x y)) 32).toArray), (25, .agg (Nw (nu x)).toArray), (26, .agg (Nw (nu y)).toArray), (27, .agg (Nw (nu (mulL x y))).toArray), (28, .agg (By (nu (mulL x y)) 32).toArray), (29, .bool true), (30, .bool true), (31, .bool true), (32, .agg (EL x).toArray), (33, .agg (EL (negL x)).toArray), (34, .agg (By (nu (negL x)) 32).toArray), (35, .agg (Nw 0).toArray), (36, .agg (Nw (nu x)).toArray), (37, .agg (Nw (nu (negL x))).toArray), (38, .agg (By (nu (negL x)) 32).toArray), (39, .bool true), (40, .bool true), (41, .bool true), (42, .bool true), (43, .bool true), (44, .bool true)]) (by kernel_rfl) ((Below.refl _ _).drew) (fun _ _ h k => S_trans h k) ?hD2 ?hk2 ?h2
  case hD2 =>
    refine .step (some 17) rfl rfl (by kernel_rfl) (Gives.load_row 26 (.tmp 5) rfl (p) rfl 26 _ (fun w' h => hp0.belowAll h) Tryd.underlying26 rfl (el_info _)) ?_
    simp only [Act.put, List.setIfInBounds_toArray, List.set_cons_zero, List.set_cons_succ]
    refine .step (some 18) rfl rfl (by kernel_rfl) (Gives.load_row 26 (.tmp 6) rfl (q) rfl 26 _ (fun w' h => hq0.belowAll h) Tryd.underlying26 rfl (el_info _)) ?_
    simp only [Act.put, List.setIfInBounds_toArray, List.set_cons_zero, List.set_cons_succ]
    refine .step (some 19) rfl rfl (by kernel_rfl) (Gives.call (args := [.agg (EL x).toArray, .agg (EL y).toArray]) rfl Tryd.func27 (by kernel_rfl) (by kernel_rfl) rfl (fun w' h => add_any hx hy w')) ?_
    simp only [Act.put, List.setIfInBounds_toArray, List.set_cons_zero, List.set_cons_succ]
    refine .step (some 20) rfl rfl (by kernel_rfl) (Gives.call (args := [.agg (EL (addL x y)).toArray]) rfl Tryd.func16 (by kernel_rfl) (by kernel_rfl) rfl (fun w' h => bytes_any (addL_ok hx hy) w')) ?_
    simp only [Act.put, List.setIfInBounds_toArray, List.set_cons_zero, List.set_cons_succ]
    refine .step (some 21) rfl rfl (by kernel_rfl) (Gives.load_row 30 (.tmp 7) rfl (r) rfl 30 _ (fun w' h => hr0.belowAll h) Tryd.underlying30 rfl (nw_info _)) ?_
    simp only [Act.put, List.setIfInBounds_toArray, List.set_cons_zero, List.set_cons_succ]
    refine .step (some 22) rfl rfl (by kernel_rfl) (Gives.load_row 30 (.tmp 8) rfl (s) rfl 30 _ (fun w' h => hs0.belowAll h) Tryd.underlying30 rfl (nw_info _)) ?_
    simp only [Act.put, List.setIfInBounds_toArray, List.set_cons_zero, List.set_cons_succ]
    refine .step (some 23) rfl rfl (by kernel_rfl) (Gives.call (args := [.agg (Nw (nu x)).toArray, .agg (Nw (nu y)).toArray]) rfl Tryd.func28 (by kernel_rfl) (by kernel_rfl) rfl (fun w' h => addr_nu x y w')) ?_
    simp only [Act.put, List.setIfInBounds_toArray, List.set_cons_zero, List.set_cons_succ]
    refine .step (some 24) rfl rfl (by kernel_rfl) (Gives.call (args := [.agg (Nw (nu (addL x y))).toArray]) rfl Tryd.func17 (by kernel_rfl) (by kernel_rfl) rfl (fun w' h => rbytes_ref (nu (addL x y)) w')) ?_
    simp only [Act.put, List.setIfInBounds_toArray, List.set_cons_zero, List.set_cons_succ]
    refine .step (some 25) rfl rfl (by kernel_rfl) (Gives.binop .eql 22 22 (.tmp 20) (.tmp 24) rfl (.agg (By (nu (addL x y)) 32).toArray) (.agg (By (nu (addL x y)) 32).toArray) _ rfl rfl (fun w' => bgrd _ _ _ _ _ w') (fun w' => beq_same rfl w')) ?_
    simp only [Act.put, List.setIfInBounds_toArray, List.set_cons_zero, List.set_cons_succ]
    refine .step (some 26) rfl rfl (by kernel_rfl) (Gives.move (x := (.tmp 25)) rfl rfl) ?_
    simp only [Act.put, List.setIfInBounds_toArray, List.set_cons_zero, List.set_cons_succ]
    refine .step (some 27) rfl rfl (by kernel_rfl) (Gives.load_row 26 (.tmp 5) rfl (p) rfl 26 _ (fun w' h => hp0.belowAll h) Tryd.underlying26 rfl (el_info _)) ?_
    simp only [Act.put, List.setIfInBounds_toArray, List.set_cons_zero, List.set_cons_succ]
    refine .step (some 28) rfl rfl (by kernel_rfl) (Gives.load_row 26 (.tmp 6) rfl (q) rfl 26 _ (fun w' h => hq0.belowAll h) Tryd.underlying26 rfl (el_info _)) ?_
    simp only [Act.put, List.setIfInBounds_toArray, List.set_cons_zero, List.set_cons_succ]
    refine .step (some 29) rfl rfl (by kernel_rfl) (Gives.call (args := [.agg (EL x).toArray, .agg (EL y).toArray]) rfl Tryd.func29 (by kernel_rfl) (by kernel_rfl) rfl (fun w' h => sub_any hx hy w' (hgl.belowAll h).en)) ?_
    simp only [Act.put, List.setIfInBounds_toArray, List.set_cons_zero, List.set_cons_succ]
    refine .step (some 30) rfl rfl (by kernel_rfl) (Gives.call (args := [.agg (EL (subL x y)).toArray]) rfl Tryd.func16 (by kernel_rfl) (by kernel_rfl) rfl (fun w' h => bytes_any (subL_ok hx) w')) ?_
    simp only [Act.put, List.setIfInBounds_toArray, List.set_cons_zero, List.set_cons_succ]
    refine .step (some 31) rfl rfl (by kernel_rfl) (Gives.load_row 30 (.tmp 7) rfl (r) rfl 30 _ (fun w' h => hr0.belowAll h) Tryd.underlying30 rfl (nw_info _)) ?_
    simp only [Act.put, List.setIfInBounds_toArray, List.set_cons_zero, List.set_cons_succ]
    refine .step (some 32) rfl rfl (by kernel_rfl) (Gives.load_row 30 (.tmp 8) rfl (s) rfl 30 _ (fun w' h => hs0.belowAll h) Tryd.underlying30 rfl (nw_info _)) ?_
    simp only [Act.put, List.setIfInBounds_toArray, List.set_cons_zero, List.set_cons_succ]
    refine .step (some 33) rfl rfl (by kernel_rfl) (Gives.call (args := [.agg (Nw (nu x)).toArray, .agg (Nw (nu y)).toArray]) rfl Tryd.func30 (by kernel_rfl) (by kernel_rfl) rfl (fun w' h => subr_nu x hy w')) ?_
    simp only [Act.put, List.setIfInBounds_toArray, List.set_cons_zero, List.set_cons_succ]
    refine .step (some 34) rfl rfl (by kernel_rfl) (Gives.call (args := [.agg (Nw (nu (subL x y))).toArray]) rfl Tryd.func17 (by kernel_rfl) (by kernel_rfl) rfl (fun w' h => rbytes_ref (nu (subL x y)) w')) ?_
    simp only [Act.put, List.setIfInBounds_toArray, List.set_cons_zero, List.set_cons_succ]
    refine .step (some 35) rfl rfl (by kernel_rfl) (Gives.binop .eql 22 22 (.tmp 30) (.tmp 34) rfl (.agg (By (nu (subL x y)) 32).toArray) (.agg (By (nu (subL x y)) 32).toArray) _ rfl rfl (fun w' => bgrd _ _ _ _ _ w') (fun w' => beq_same rfl w')) ?_
    simp only [Act.put, List.setIfInBounds_toArray, List.set_cons_zero, List.set_cons_succ]
    refine .step (some 36) rfl rfl (by kernel_rfl) (Gives.pick (.tmp 26) (.tmp 35) (.const (.bool false)) rfl true (.bool true) rfl rfl) ?_
    simp only [Act.put, List.setIfInBounds_toArray, List.set_cons_zero, List.set_cons_succ]
    refine .step (some 37) rfl rfl (by kernel_rfl) (Gives.move (x := (.tmp 36)) rfl rfl) ?_
    simp only [Act.put, List.setIfInBounds_toArray, List.set_cons_zero, List.set_cons_succ]
    refine .step (some 38) rfl rfl (by kernel_rfl) (Gives.load_row 26 (.tmp 5) rfl (p) rfl 26 _ (fun w' h => hp0.belowAll h) Tryd.underlying26 rfl (el_info _)) ?_
    simp only [Act.put, List.setIfInBounds_toArray, List.set_cons_zero, List.set_cons_succ]
    refine .step (some 39) rfl rfl (by kernel_rfl) (Gives.load_row 26 (.tmp 6) rfl (q) rfl 26 _ (fun w' h => hq0.belowAll h) Tryd.underlying26 rfl (el_info _)) ?_
    simp only [Act.put, List.setIfInBounds_toArray, List.set_cons_zero, List.set_cons_succ]
    refine .step (some 40) rfl rfl (by kernel_rfl) (Gives.call (args := [.agg (EL x).toArray, .agg (EL y).toArray]) rfl Tryd.func31 (by kernel_rfl) (by kernel_rfl) rfl (fun w' h => mul_any hx hy w')) ?_
    simp only [Act.put, List.setIfInBounds_toArray, List.set_cons_zero, List.set_cons_succ]
    refine .step (some 41) rfl rfl (by kernel_rfl) (Gives.call (args := [.agg (EL (mulL x y)).toArray]) rfl Tryd.func16 (by kernel_rfl) (by kernel_rfl) rfl (fun w' h => bytes_any (mulL_ok hx hy) w')) ?_
    simp only [Act.put, List.setIfInBounds_toArray, List.set_cons_zero, List.set_cons_succ]
    refine .step (some 42) rfl rfl (by kernel_rfl) (Gives.load_row 30 (.tmp 7) rfl (r) rfl 30 _ (fun w' h => hr0.belowAll h) Tryd.underlying30 rfl (nw_info _)) ?_
    simp only [Act.put, List.setIfInBounds_toArray, List.set_cons_zero, List.set_cons_succ]
    refine .step (some 43) rfl rfl (by kernel_rfl) (Gives.load_row 30 (.tmp 8) rfl (s) rfl 30 _ (fun w' h => hs0.belowAll h) Tryd.underlying30 rfl (nw_info _)) ?_
    simp only [Act.put, List.setIfInBounds_toArray, List.set_cons_zero, List.set_cons_succ]
    refine .step (some 44) rfl rfl (by kernel_rfl) (Gives.call (args := [.agg (Nw (nu x)).toArray, .agg (Nw (nu y)).toArray]) rfl Tryd.func32 (by kernel_rfl) (by kernel_rfl) rfl (fun w' h => mulr_nu x y w')) ?_
    simp only [Act.put, List.setIfInBounds_toArray, List.set_cons_zero, List.set_cons_succ]
    refine .step (some 45) rfl rfl (by kernel_rfl) (Gives.call (args := [.agg (Nw (nu (mulL x y))).toArray]) rfl Tryd.func17 (by kernel_rfl) (by kernel_rfl) rfl (fun w' h => rbytes_ref (nu (mulL x y)) w')) ?_
    simp only [Act.put, List.setIfInBounds_toArray, List.set_cons_zero, List.set_cons_succ]
    refine .step (some 46) rfl rfl (by kernel_rfl) (Gives.binop .eql 22 22 (.tmp 41) (.tmp 45) rfl (.agg (By (nu (mulL x y)) 32).toArray) (.agg (By (nu (mulL x y)) 32).toArray) _ rfl rfl (fun w' => bgrd _ _ _ _ _ w') (fun w' => beq_same rfl w')) ?_
    simp only [Act.put, List.setIfInBounds_toArray, List.set_cons_zero, List.set_cons_succ]
    refine .step (some 47) rfl rfl (by kernel_rfl) (Gives.pick (.tmp 37) (.tmp 46) (.const (.bool false)) rfl true (.bool true) rfl rfl) ?_
    simp only [Act.put, List.setIfInBounds_toArray, List.set_cons_zero, List.set_cons_succ]
    refine .step (some 48) rfl rfl (by kernel_rfl) (Gives.move (x := (.tmp 47)) rfl rfl) ?_
    simp only [Act.put, List.setIfInBounds_toArray, List.set_cons_zero, List.set_cons_succ]
    refine .step (some 49) rfl rfl (by kernel_rfl) (Gives.load_row 26 (.tmp 5) rfl (p) rfl 26 _ (fun w' h => hp0.belowAll h) Tryd.underlying26 rfl (el_info _)) ?_
    simp only [Act.put, List.setIfInBounds_toArray, List.set_cons_zero, List.set_cons_succ]
    refine .step (some 50) rfl rfl (by kernel_rfl) (Gives.call (args := [.agg (EL x).toArray]) rfl Tryd.func33 (by kernel_rfl) (by kernel_rfl) rfl (fun w' h => neg_any hx w' (hgl.belowAll h).en)) ?_
    simp only [Act.put, List.setIfInBounds_toArray, List.set_cons_zero, List.set_cons_succ]
    refine .step (some 51) rfl rfl (by kernel_rfl) (Gives.call (args := [.agg (EL (negL x)).toArray]) rfl Tryd.func16 (by kernel_rfl) (by kernel_rfl) rfl (fun w' h => bytes_any (negL_ok _) w')) ?_
    simp only [Act.put, List.setIfInBounds_toArray, List.set_cons_zero, List.set_cons_succ]
    refine .step (some 52) rfl rfl (by kernel_rfl) (Gives.build0 30 rfl _ (fun w' => nw_build w')) ?_
    simp only [Act.put, List.setIfInBounds_toArray, List.set_cons_zero, List.set_cons_succ]
    refine .step (some 53) rfl rfl (by kernel_rfl) (Gives.load_row 30 (.tmp 7) rfl (r) rfl 30 _ (fun w' h => hr0.belowAll h) Tryd.underlying30 rfl (nw_info _)) ?_
    simp only [Act.put, List.setIfInBounds_toArray, List.set_cons_zero, List.set_cons_succ]
    refine .step (some 54) rfl rfl (by kernel_rfl) (Gives.call (args := [.agg (Nw 0).toArray, .agg (Nw (nu x)).toArray]) rfl Tryd.func30 (by kernel_rfl) (by kernel_rfl) rfl (fun w' h => negr_nu hx w')) ?_
    simp only [Act.put, List.setIfInBounds_toArray, List.set_cons_zero, List.set_cons_succ]
    refine .step (some 55) rfl rfl (by kernel_rfl) (Gives.call (args := [.agg (Nw (nu (negL x))).toArray]) rfl Tryd.func17 (by kernel_rfl) (by kernel_rfl) rfl (fun w' h => rbytes_ref (nu (negL x)) w')) ?_
    simp only [Act.put, List.setIfInBounds_toArray, List.set_cons_zero, List.set_cons_succ]
    refine .step (some 56) rfl rfl (by kernel_rfl) (Gives.binop .eql 22 22 (.tmp 51) (.tmp 55) rfl (.agg (By (nu (negL x)) 32).toArray) (.agg (By (nu (negL x)) 32).toArray) _ rfl rfl (fun w' => bgrd _ _ _ _ _ w') (fun w' => beq_same rfl w')) ?_
    simp only [Act.put, List.setIfInBounds_toArray, List.set_cons_zero, List.set_cons_succ]
    refine .step (some 57) rfl rfl (by kernel_rfl) (Gives.pick (.tmp 48) (.tmp 56) (.const (.bool false)) rfl true (.bool true) rfl rfl) ?_
    simp only [Act.put, List.setIfInBounds_toArray, List.set_cons_zero, List.set_cons_succ]
    refine .step (some 58) rfl rfl (by kernel_rfl) (Gives.move (x := (.tmp 57)) rfl rfl) ?_
    simp only [Act.put, List.setIfInBounds_toArray, List.set_cons_zero, List.set_cons_succ]
    refine .step (some 59) rfl rfl (by kernel_rfl) (Gives.call (args := []) rfl Tryd.func26 (by kernel_rfl) (by kernel_rfl) rfl (fun w' h => awake_any w' (hgl.belowAll h))) ?_
    simp only [Act.put, List.setIfInBounds_toArray, List.set_cons_zero, List.set_cons_succ]
    refine .step (some 60) rfl rfl (by kernel_rfl) (Gives.pick (.tmp 58) (.tmp 59) (.const (.bool false)) rfl true (.bool true) rfl rfl) ?_
    simp only [Act.put, List.setIfInBounds_toArray, List.set_cons_zero, List.set_cons_succ]
    refine .step (some 4) rfl rfl (by kernel_rfl) (Gives.assign (x := (.tmp 60)) rfl rfl) ?_
    simp only [Act.put, List.setIfInBounds_toArray, List.set_cons_zero, List.set_cons_succ]
    exact .nil
  case hk2 => kernel_rfl
  case h2 =>
  intro W2 hb2
  go_wp2_with fail
  go_ret
  exact ⟨rfl, hw1.trans (hb2.mono hw1.size)⟩

end Go.Proofs.YthpbipebpaeagaaDoor
