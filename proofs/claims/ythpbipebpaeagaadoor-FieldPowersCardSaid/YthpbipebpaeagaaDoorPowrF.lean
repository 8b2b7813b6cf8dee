/- The statement FieldPowers: the walk. -/
import Derived.Test.YthpbipebpaeagaaDoorNu
import Derived.Test.YthpbipebpaeagaaDoorRk
namespace Go.Proofs.YthpbipebpaeagaaDoor
set_option maxRecDepth 100000
set_option linter.unusedSimpArgs false
open Go.RowKit

set_option maxHeartbeats 3200000 in
theorem powers_law (a b n : Nat) (hbn : b < 256 ^ 32) (hn : n < 4294967296) (w : World) (hq : Gl w) :
    Calls Tryd.prog 6 #[.agg (By a 32).toArray, .agg (By b 32).toArray, .int .u32 (n : Int)] w fun e w' => e = .returned (.bool true) ∧ Below w.heap.size w w' := by
  have hr1 := (Row.new w (By a 32) 22).alloc (.cells (By b 32).toArray 22)
  have hr2 := Row.new1 w (.cells (By a 32).toArray 22) (By b 32) 22
  have hb0 := Below.alloc2 w (.cells (By a 32).toArray 22) (.cells (By b 32).toArray 22)
  have hg0 := hq.belowAll hb0
  go_enter Tryd.func6, Tryd.ntmps6
  go_wp2_with fail
  generalize (w.alloc (.cells (By a 32).toArray 22)).alloc (.cells (By b 32).toArray 22) = W0 at *
  refine wp_vars_two (aD := ?aD1) (B := W0.heap.size) (S := fun w' => Below W0.heap.size W0 w') (k1 := 4) (s1 := 6) (T1 := 26) (L1 := 26) (z1 := EL zeL) (c1 := EL (ofB a)) (x1 := .tmp 7) (y1 := .tmp 10) (k2 := 5) (s2 := 7) (T2 := 30) (L2 := 30) (z2 := Nw 0) (c2 := Nw (nu (ofB a))) (x2 := .tmp 8) (y2 := .tmp 12)
    (vs := [(0, .agg (By a 32).toArray), (1, .agg (EL (ofB a)).toArray), (2, .agg (By a 32).toArray), (3, .agg (Nw (nu (ofB a))).toArray)]) (by kernel_rfl) ((Below.refl _ _).drew) (fun _ _ h k => S_trans h k) (fun _ _ cs h hg => S_row h hg cs) (fun _ h => h.size) ?hD1 (.of rfl rfl rfl (fun w' => el_alloc w')) (.of rfl rfl rfl (fun w' => nw_alloc w')) ?hk1 (by decide) rfl rfl rfl rfl (some 7) (some 8) rfl rfl rfl rfl rfl rfl ?e1 ?f1 ?e2 ?f2 (el_info _) (EL_sz _ _) (EL_one _) (nw_info _) (Nw_sz _ _) (Nw_one _) ?h1
  case hD1 =>
    refine .step (some 9) rfl rfl (by kernel_rfl) (Gives.load_row 22 (.tmp 3) rfl (w.heap.size) rfl 22 _ (fun w' h => hr1.belowAll h) Tryd.underlying22 rfl (by_info _)) ?_
    simp only [Act.put, List.setIfInBounds_toArray, List.set_cons_zero, List.set_cons_succ]
    refine .step (some 10) rfl rfl (by kernel_rfl) (Gives.call (args := [.agg (By a 32).toArray]) rfl Tryd.func14 (by kernel_rfl) (by kernel_rfl) rfl (fun w' h => of_any a w')) ?_
    simp only [Act.put, List.setIfInBounds_toArray, List.set_cons_zero, List.set_cons_succ]
    refine .step (some 11) rfl rfl (by kernel_rfl) (Gives.load_row 22 (.tmp 3) rfl (w.heap.size) rfl 22 _ (fun w' h => hr1.belowAll h) Tryd.underlying22 rfl (by_info _)) ?_
    simp only [Act.put, List.setIfInBounds_toArray, List.set_cons_zero, List.set_cons_succ]
    refine .step (some 12) rfl rfl (by kernel_rfl) (Gives.call (args := [.agg (By a 32).toArray]) rfl Tryd.func15 (by kernel_rfl) (by kernel_rfl) rfl (fun w' h => ofr_nu a w')) ?_
    simp only [Act.put, List.setIfInBounds_toArray, List.set_cons_zero, List.set_cons_succ]
    exact .nil
  case hk1 => kernel_rfl
  case e1 => intro p q; rfl
  case f1 => intro p q; rfl
  case e2 => intro p q; rfl
  case f2 => intro p q; rfl
  case h1 =>
  intro p q W1 hb hgp hgq hpq hp0 hq0
  simp only [Act.put, List.setIfInBounds_toArray, List.set_cons_zero, List.set_cons_succ]
  have hgl := hg0.belowAll hb
  have hw1 := hb0.trans (hb.mono hb0.size)
  have hr4 := hr2.belowAll hb
  clear hr1 hr2 hb0 hg0 hb
  have hx := ofB_ok a
  generalize ofB a = x at *
  go_wp2_with fail
  refine wp_flat_none (aD := ?aD2) (S := fun w' => Below W1.heap.size W1 w') (vs := [(0, .agg (EL x).toArray), (1, .agg (EL (invL x)).toArray), (2, .agg (By (nu (invL x)) 32).toArray), (3, .agg (Nw (nu x)).toArray), (4, .agg (Nw (nu (invL x))).toArray), (5, .agg (By (nu (invL x)) 32).toArray), (6, .bool true), (7, .bool true), (8, .agg (EL x).toArray), (9, .agg (By b 32).toArray), (10, .agg (EL (powL x b)).toArray), (11, .agg (By (nu (powL x b)) 32).toArray), (12, .agg (Nw (nu x)).toArray), (13, .agg (By b 32).toArray), (14, .agg (Nw (nu (powL x b))).toArray), (15, .agg (By (nu (powL x b)) 32).toArray), (16, .bool true), (17, .bool true), (18, .bool true), (19, .int .u32 (n : Int)), (20, .agg (EL (smL n)).toArray), (21, .agg (By (nu (smL n)) 32).toArray), (22, .int .u32 (n : Int)), (23, .agg (Nw (nu (smL n))).toArray), (24, .agg (By (nu (smL n)) 32).toArray), (25, .bool true), (26, .bool true), (27, .bool true), (28, .bool true), (29, .bool true), (30, .bool true)]) (by kernel_rfl) ((Below.refl _ _).drew) (fun _ _ h k => S_trans h k) ?hD2 ?hk2 ?h2
  case hD2 =>
    refine .step (some 13) rfl rfl (by kernel_rfl) (Gives.load_row 26 (.tmp 7) rfl (p) rfl 26 _ (fun w' h => hp0.belowAll h) Tryd.underlying26 rfl (el_info _)) ?_
    simp only [Act.put, List.setIfInBounds_toArray, List.set_cons_zero, List.set_cons_succ]
    refine .step (some 14) rfl rfl (by kernel_rfl) (Gives.call (args := [.agg (EL x).toArray]) rfl Tryd.func34 (by kernel_rfl) (by kernel_rfl) rfl (fun w' h => inv_any hx w')) ?_
    simp only [Act.put, List.setIfInBounds_toArray, List.set_cons_zero, List.set_cons_succ]
    refine .step (some 15) rfl rfl (by kernel_rfl) (Gives.call (args := [.agg (EL (invL x)).toArray]) rfl Tryd.func16 (by kernel_rfl) (by kernel_rfl) rfl (fun w' h => bytes_any (invL_ok hx) w')) ?_
    simp only [Act.put, List.setIfInBounds_toArray, List.set_cons_zero, List.set_cons_succ]
    refine .step (some 16) rfl rfl (by kernel_rfl) (Gives.load_row 30 (.tmp 8) rfl (q) rfl 30 _ (fun w' h => hq0.belowAll h) Tryd.underlying30 rfl (nw_info _)) ?_
    simp only [Act.put, List.setIfInBounds_toArray, List.set_cons_zero, List.set_cons_succ]
    refine .step (some 17) rfl rfl (by kernel_rfl) (Gives.call (args := [.agg (Nw (nu x)).toArray]) rfl Tryd.func35 (by kernel_rfl) (by kernel_rfl) rfl (fun w' h => invr_nu x w')) ?_
    simp only [Act.put, List.setIfInBounds_toArray, List.set_cons_zero, List.set_cons_succ]
    refine .step (some 18) rfl rfl (by kernel_rfl) (Gives.call (args := [.agg (Nw (nu (invL x))).toArray]) rfl Tryd.func17 (by kernel_rfl) (by kernel_rfl) rfl (fun w' h => rbytes_ref (nu (invL x)) w')) ?_
    simp only [Act.put, List.setIfInBounds_toArray, List.set_cons_zero, List.set_cons_succ]
    refine .step (some 19) rfl rfl (by kernel_rfl) (Gives.binop .eql 22 22 (.tmp 15) (.tmp 18) rfl (.agg (By (nu (invL x)) 32).toArray) (.agg (By (nu (invL x)) 32).toArray) _ rfl rfl (fun w' => bgrd _ _ _ _ _ w') (fun w' => beq_same rfl w')) ?_
    simp only [Act.put, List.setIfInBounds_toArray, List.set_cons_zero, List.set_cons_succ]
    refine .step (some 20) rfl rfl (by kernel_rfl) (Gives.move (x := (.tmp 19)) rfl rfl) ?_
    simp only [Act.put, List.setIfInBounds_toArray, List.set_cons_zero, List.set_cons_succ]
    refine .step (some 21) rfl rfl (by kernel_rfl) (Gives.load_row 26 (.tmp 7) rfl (p) rfl 26 _ (fun w' h => hp0.belowAll h) Tryd.underlying26 rfl (el_info _)) ?_
    simp only [Act.put, List.setIfInBounds_toArray, List.set_cons_zero, List.set_cons_succ]
    refine .step (some 22) rfl rfl (by kernel_rfl) (Gives.load_row 22 (.tmp 4) rfl (w.heap.size + 1) rfl 22 _ (fun w' h => hr4.belowAll h) Tryd.underlying22 rfl (by_info _)) ?_
    simp only [Act.put, List.setIfInBounds_toArray, List.set_cons_zero, List.set_cons_succ]
    refine .step (some 23) rfl rfl (by kernel_rfl) (Gives.call (args := [.agg (EL x).toArray, .agg (By b 32).toArray]) rfl Tryd.func36 (by kernel_rfl) (by kernel_rfl) rfl (fun w' h => pow_any b hx w')) ?_
    simp only [Act.put, List.setIfInBounds_toArray, List.set_cons_zero, List.set_cons_succ]
    refine .step (some 24) rfl rfl (by kernel_rfl) (Gives.call (args := [.agg (EL (powL x b)).toArray]) rfl Tryd.func16 (by kernel_rfl) (by kernel_rfl) rfl (fun w' h => bytes_any (powL_ok hx _) w')) ?_
    simp only [Act.put, List.setIfInBounds_toArray, List.set_cons_zero, List.set_cons_succ]
    refine .step (some 25) rfl rfl (by kernel_rfl) (Gives.load_row 30 (.tmp 8) rfl (q) rfl 30 _ (fun w' h => hq0.belowAll h) Tryd.underlying30 rfl (nw_info _)) ?_
    simp only [Act.put, List.setIfInBounds_toArray, List.set_cons_zero, List.set_cons_succ]
    refine .step (some 26) rfl rfl (by kernel_rfl) (Gives.load_row 22 (.tmp 4) rfl (w.heap.size + 1) rfl 22 _ (fun w' h => hr4.belowAll h) Tryd.underlying22 rfl (by_info _)) ?_
    simp only [Act.put, List.setIfInBounds_toArray, List.set_cons_zero, List.set_cons_succ]
    refine .step (some 27) rfl rfl (by kernel_rfl) (Gives.call (args := [.agg (Nw (nu x)).toArray, .agg (By b 32).toArray]) rfl Tryd.func37 (by kernel_rfl) (by kernel_rfl) rfl (fun w' h => powr_nu x hbn w')) ?_
    simp only [Act.put, List.setIfInBounds_toArray, List.set_cons_zero, List.set_cons_succ]
    refine .step (some 28) rfl rfl (by kernel_rfl) (Gives.call (args := [.agg (Nw (nu (powL x b))).toArray]) rfl Tryd.func17 (by kernel_rfl) (by kernel_rfl) rfl (fun w' h => rbytes_ref (nu (powL x b)) w')) ?_
    simp only [Act.put, List.setIfInBounds_toArray, List.set_cons_zero, List.set_cons_succ]
    refine .step (some 29) rfl rfl (by kernel_rfl) (Gives.binop .eql 22 22 (.tmp 24) (.tmp 28) rfl (.agg (By (nu (powL x b)) 32).toArray) (.agg (By (nu (powL x b)) 32).toArray) _ rfl rfl (fun w' => bgrd _ _ _ _ _ w') (fun w' => beq_same rfl w')) ?_
    simp only [Act.put, List.setIfInBounds_toArray, List.set_cons_zero, List.set_cons_succ]
    refine .step (some 30) rfl rfl (by kernel_rfl) (Gives.pick (.tmp 20) (.tmp 29) (.const (.bool false)) rfl true (.bool true) rfl rfl) ?_
    simp only [Act.put, List.setIfInBounds_toArray, List.set_cons_zero, List.set_cons_succ]
    refine .step (some 31) rfl rfl (by kernel_rfl) (Gives.move (x := (.tmp 30)) rfl rfl) ?_
    simp only [Act.put, List.setIfInBounds_toArray, List.set_cons_zero, List.set_cons_succ]
    refine .step (some 32) rfl rfl (by kernel_rfl) (Gives.move (x := (.tmp 2)) rfl rfl) ?_
    simp only [Act.put, List.setIfInBounds_toArray, List.set_cons_zero, List.set_cons_succ]
    refine .step (some 33) rfl rfl (by kernel_rfl) (Gives.call (args := [.int .u32 (n : Int)]) rfl Tryd.func38 (by kernel_rfl) (by kernel_rfl) rfl (fun w' h => sm_any n hn w')) ?_
    simp only [Act.put, List.setIfInBounds_toArray, List.set_cons_zero, List.set_cons_succ]
    refine .step (some 34) rfl rfl (by kernel_rfl) (Gives.call (args := [.agg (EL (smL n)).toArray]) rfl Tryd.func16 (by kernel_rfl) (by kernel_rfl) rfl (fun w' h => bytes_any (smL_ok hn) w')) ?_
    simp only [Act.put, List.setIfInBounds_toArray, List.set_cons_zero, List.set_cons_succ]
    refine .step (some 35) rfl rfl (by kernel_rfl) (Gives.move (x := (.tmp 2)) rfl rfl) ?_
    simp only [Act.put, List.setIfInBounds_toArray, List.set_cons_zero, List.set_cons_succ]
    refine .step (some 36) rfl rfl (by kernel_rfl) (Gives.call (args := [.int .u32 (n : Int)]) rfl Tryd.func39 (by kernel_rfl) (by kernel_rfl) rfl (fun w' h => smallr_nu n hn w')) ?_
    simp only [Act.put, List.setIfInBounds_toArray, List.set_cons_zero, List.set_cons_succ]
    refine .step (some 37) rfl rfl (by kernel_rfl) (Gives.call (args := [.agg (Nw (nu (smL n))).toArray]) rfl Tryd.func17 (by kernel_rfl) (by kernel_rfl) rfl (fun w' h => rbytes_ref (nu (smL n)) w')) ?_
    simp only [Act.put, List.setIfInBounds_toArray, List.set_cons_zero, List.set_cons_succ]
    refine .step (some 38) rfl rfl (by kernel_rfl) (Gives.binop .eql 22 22 (.tmp 34) (.tmp 37) rfl (.agg (By (nu (smL n)) 32).toArray) (.agg (By (nu (smL n)) 32).toArray) _ rfl rfl (fun w' => bgrd _ _ _ _ _ w') (fun w' => beq_same rfl w')) ?_
    simp only [Act.put, List.setIfInBounds_toArray, List.set_cons_zero, List.set_cons_succ]
    refine .step (some 39) rfl rfl (by kernel_rfl) (Gives.pick (.tmp 31) (.tmp 38) (.const (.bool false)) rfl true (.bool true) rfl rfl) ?_
    simp only [Act.put, List.setIfInBounds_toArray, List.set_cons_zero, List.set_cons_succ]
    refine .step (some 40) rfl rfl (by kernel_rfl) (Gives.move (x := (.tmp 39)) rfl rfl) ?_
    simp only [Act.put, List.setIfInBounds_toArray, List.set_cons_zero, List.set_cons_succ]
    refine .step (some 41) rfl rfl (by kernel_rfl) (Gives.call (args := []) rfl Tryd.func26 (by kernel_rfl) (by kernel_rfl) rfl (fun w' h => awake_any w' (hgl.belowAll h))) ?_
    simp only [Act.put, List.setIfInBounds_toArray, List.set_cons_zero, List.set_cons_succ]
    refine .step (some 42) rfl rfl (by kernel_rfl) (Gives.pick (.tmp 40) (.tmp 41) (.const (.bool false)) rfl true (.bool true) rfl rfl) ?_
    simp only [Act.put, List.setIfInBounds_toArray, List.set_cons_zero, List.set_cons_succ]
    refine .step (some 6) rfl rfl (by kernel_rfl) (Gives.assign (x := (.tmp 42)) rfl rfl) ?_
    simp only [Act.put, List.setIfInBounds_toArray, List.set_cons_zero, List.set_cons_succ]
    exact .nil
  case hk2 => kernel_rfl
  case h2 =>
  intro W2 hb2
  go_wp2_with fail
  go_ret
  exact ⟨rfl, hw1.trans (hb2.mono hw1.size)⟩

end Go.Proofs.YthpbipebpaeagaaDoor
