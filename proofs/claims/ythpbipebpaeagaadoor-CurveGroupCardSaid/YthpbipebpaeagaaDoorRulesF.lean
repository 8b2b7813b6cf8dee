/- field's awake; the statement FieldRules: the walk. -/
import Derived.Test.YthpbipebpaeagaaDoorRoot
import Derived.Test.YthpbipebpaeagaaDoorRootM
import Derived.Test.YthpbipebpaeagaaDoorVars
namespace Go.Proofs.YthpbipebpaeagaaDoor
set_option maxRecDepth 100000
set_option linter.unusedSimpArgs false
open Go.RowKit

/-- A small number. -/
def smL (n : Nat) : Lm := ⟨n, 0, 0, 0, 0⟩
theorem smL_ok {n : Nat} (h : n < 4294967296) : (smL n).ok := ⟨Nat.lt_of_lt_of_le h (by decide), Nat.zero_lt_succ _, Nat.zero_lt_succ _, Nat.zero_lt_succ _, Nat.zero_lt_succ _⟩
theorem nu_smL {n : Nat} (h : n < 4294967296) : nu (smL n) = n := by
  show V5 n 0 0 0 0 % _ = n
  rw [V5_lin]
  exact Nat.mod_eq_of_lt (by omega)
theorem sm_any (n : Nat) (h : n < 4294967296) (w : World) : Calls Tryd.prog 38 #[.int .u32 (n : Int)] w fun e w' => e = .returned (.agg (EL (smL n)).toArray) ∧ Below w.heap.size w w' := small_any n h w
theorem same_is {x y : Lm} (hx : x.ok) (hy : y.ok) {b : Bool} (h : decide (nu x = nu y) = b) (w : World) :
    Calls Tryd.prog 21 #[.agg (EL x).toArray, .agg (EL y).toArray] w fun e w' => e = .returned (.bool b) ∧ Below w.heap.size w w' := by
  rw [← h]; exact same_any hx hy w
theorem zero_is {x : Lm} (hx : x.ok) {b : Bool} (h : decide (nu x = 0) = b) (w : World) :
    Calls Tryd.prog 20 #[.agg (EL x).toArray] w fun e w' => e = .returned (.bool b) ∧ Below w.heap.size w w' := by
  rw [← h]; exact zero_any hx w
theorem grd_bool (x y : Operand) (b : Bool) (w : World) : (eqGuard .eql 4 x y (.bool b) (.bool b)).run Tryd.prog w = .ok () w := by cases b <;> kernel_rfl
theorem bool_eq (b : Bool) (w : World) : (binOp .eql 4 (.bool b) (.bool b)).run Tryd.prog w = .ok (.bool true) w := by cases b <;> kernel_rfl
theorem quo_aux (a n : Nat) : a * 1 ^ n = a := by rw [Nat.one_pow, Nat.mul_one]
theorem quo_one {u v : Lm} (hv : nu v = 1) : quo u v = nu u := by
  unfold quo
  rw [hv]
  exact quo_aux _ _
theorem root_of_4 : rootOk (smL 4) (smL 1) = true ∧ nu (rootL (smL 4) (smL 1)) = 2 := by
  have h4 := nu_smL (n := 4) (by decide)
  have h1 := nu_smL (n := 1) (by decide)
  refine rootL_is (smL_ok (by decide)) (smL_ok (by decide)) (by rw [h1]; decide) (s := 2) ?_ (by decide) (by decide)
  rw [quo_one h1, h4]
theorem t_root : decide (nu (rootL (smL 4) (smL 1)) = nu (smL 2)) = true := by rw [root_of_4.2, nu_smL (by decide)]; rfl
theorem t_inv : decide (nu (mulL (invL (smL 2)) (smL 2)) = nu (smL 1)) = true := by
  have h := inv_one (smL 2)
  rw [nu_smL (by decide)] at h
  rw [nu_mulP, Nat.mul_comm, ← nu_mulP, h, nu_smL (by decide)]
  rfl
theorem t_zero : decide (nu (smL 1) = 0) = false := by rw [nu_smL (by decide)]; rfl
theorem dec_t {p : Prop} [Decidable p] (h : p) : decide p = true := decide_eq_true h

set_option maxHeartbeats 1600000 in
theorem awake_any (w : World) (hgl : Gl w) : Calls Tryd.prog 26 #[] w fun e w' => e = .returned (.bool true) ∧ Below w.heap.size w w' := by
  have hro := root_of_4.1
  have t_rr := t_root
  have hrok := rootL_ok (smL_ok (n := 4) (by decide)) (smL_ok (n := 1) (by decide))
  have HRT := Lib.hid (fun wx hq => root_any (smL_ok (n := 4) (by decide)) (smL_ok (n := 1) (by decide)) wx hq)
  rw [hro] at HRT
  clear hro
  generalize rootL (smL 4) (smL 1) = r at *
  have HS4 := Lib.hid el_info
  go_enter Tryd.func26, Tryd.ntmps26
  go_wp2_with fail
  refine (sm_any 4 (by decide) _).mono ?_
  rintro e wa ⟨rfl, hba⟩
  go_wp2_with fail
  refine (sm_any 1 (by decide) _).mono ?_
  rintro e wb ⟨rfl, hbb⟩
  have hg2 := (hgl.belowAll hba).belowAll hbb
  go_wp2_with fail
  refine (HRT.out _ hg2).mono ?_
  rintro e w1 ⟨rfl, hbc⟩
  have hwc := (hba.trans (hbb.mono hba.size)).trans (hbc.mono (hba.trans (hbb.mono hba.size)).size)
  have hr1 := Row.new w1 (EL zeL) 26
  have hr2 := hr1.setRow (EL r)
  have hw2 := below_setRow (g := w1.heap.size) (hwc.alloc hwc.size (.cells (EL zeL).toArray 26)) hwc.size (EL r).toArray
  have HR1 := Lib.hid hr1
  clear hr1 hba hbb hbc hwc hg2
  go_wp2_with (refine wpList_store_row rfl 26 (.tmp 1) (.tmp 7) rfl w1.heap.size _ rfl rfl 26 _ HR1.out (HS4.out _) (EL_sz _ _) (EL_one _) ?_)
  rw [show (#[Value.int .u64 0, .int .u64 0, .int .u64 0, .int .u64 0, .int .u64 0] : Array Value) = (EL zeL).toArray from rfl]
  generalize (w1.alloc (.cells (EL zeL).toArray 26)).setRow w1.heap.size (EL r).toArray = W0 at *
  refine wp_flat_none (aD := ?aD1) (S := fun w' => Below W0.heap.size W0 w') (vs := [(0, .bool true), (1, .bool true), (2, .agg (EL r).toArray), (3, .agg (EL (smL 2)).toArray), (4, .bool true), (5, .bool true), (6, .bool true), (7, .agg (EL (smL 2)).toArray), (8, .agg (EL (invL (smL 2))).toArray), (9, .agg (EL (smL 2)).toArray), (10, .agg (EL (mulL (invL (smL 2)) (smL 2))).toArray), (11, .agg (EL (smL 1)).toArray), (12, .bool true), (13, .bool true), (14, .bool true), (15, .agg (EL (smL 1)).toArray), (16, .bool false), (17, .bool true), (18, .bool true), (19, .bool true)]) (by kernel_rfl) ((Below.refl _ _).drew) (fun _ _ h k => S_trans h k) ?hD1 ?hk1 ?h1
  case hD1 =>
    refine .step (some 9) rfl rfl (by kernel_rfl) (Gives.move (x := (.tmp 2)) rfl rfl) ?_
    simp only [Act.put, List.setIfInBounds_toArray, List.set_cons_zero, List.set_cons_succ]
    refine .step (some 10) rfl rfl (by kernel_rfl) (Gives.move (x := (.tmp 9)) rfl rfl) ?_
    simp only [Act.put, List.setIfInBounds_toArray, List.set_cons_zero, List.set_cons_succ]
    refine .step (some 11) rfl rfl (by kernel_rfl) (Gives.load_row 26 (.tmp 1) rfl (w1.heap.size) rfl 26 _ (fun w' h => hr2.belowAll h) Tryd.underlying26 rfl (el_info _)) ?_
    simp only [Act.put, List.setIfInBounds_toArray, List.set_cons_zero, List.set_cons_succ]
    refine .step (some 12) rfl rfl (by kernel_rfl) (Gives.call (args := [.int .u32 2]) rfl Tryd.func38 (by kernel_rfl) (by kernel_rfl) rfl (fun w' h => sm_any 2 (by decide) w')) ?_
    simp only [Act.put, List.setIfInBounds_toArray, List.set_cons_zero, List.set_cons_succ]
    refine .step (some 13) rfl rfl (by kernel_rfl) (Gives.call (args := [.agg (EL r).toArray, .agg (EL (smL 2)).toArray]) rfl Tryd.func21 (by kernel_rfl) (by kernel_rfl) rfl (fun w' h => same_is hrok (smL_ok (by decide)) t_rr w')) ?_
    simp only [Act.put, List.setIfInBounds_toArray, List.set_cons_zero, List.set_cons_succ]
    refine .step (some 14) rfl rfl (by kernel_rfl) (Gives.pick (.tmp 10) (.tmp 13) (.const (.bool false)) rfl true (.bool true) rfl rfl) ?_
    simp only [Act.put, List.setIfInBounds_toArray, List.set_cons_zero, List.set_cons_succ]
    refine .step (some 15) rfl rfl (by kernel_rfl) (Gives.move (x := (.tmp 14)) rfl rfl) ?_
    simp only [Act.put, List.setIfInBounds_toArray, List.set_cons_zero, List.set_cons_succ]
    refine .step (some 16) rfl rfl (by kernel_rfl) (Gives.call (args := [.int .u32 2]) rfl Tryd.func38 (by kernel_rfl) (by kernel_rfl) rfl (fun w' h => sm_any 2 (by decide) w')) ?_
    simp only [Act.put, List.setIfInBounds_toArray, List.set_cons_zero, List.set_cons_succ]
    refine .step (some 17) rfl rfl (by kernel_rfl) (Gives.call (args := [.agg (EL (smL 2)).toArray]) rfl Tryd.func34 (by kernel_rfl) (by kernel_rfl) rfl (fun w' h => inv_any (smL_ok (by decide)) w')) ?_
    simp only [Act.put, List.setIfInBounds_toArray, List.set_cons_zero, List.set_cons_succ]
    refine .step (some 18) rfl rfl (by kernel_rfl) (Gives.call (args := [.int .u32 2]) rfl Tryd.func38 (by kernel_rfl) (by kernel_rfl) rfl (fun w' h => sm_any 2 (by decide) w')) ?_
    simp only [Act.put, List.setIfInBounds_toArray, List.set_cons_zero, List.set_cons_succ]
    refine .step (some 19) rfl rfl (by kernel_rfl) (Gives.call (args := [.agg (EL (invL (smL 2))).toArray, .agg (EL (smL 2)).toArray]) rfl Tryd.func31 (by kernel_rfl) (by kernel_rfl) rfl (fun w' h => mul_any (invL_ok (smL_ok (by decide))) (smL_ok (by decide)) w')) ?_
    simp only [Act.put, List.setIfInBounds_toArray, List.set_cons_zero, List.set_cons_succ]
    refine .step (some 20) rfl rfl (by kernel_rfl) (Gives.call (args := [.int .u32 1]) rfl Tryd.func38 (by kernel_rfl) (by kernel_rfl) rfl (fun w' h => sm_any 1 (by decide) w')) ?_
    simp only [Act.put, List.setIfInBounds_toArray, List.set_cons_zero, List.set_cons_succ]
    refine .step (some 21) rfl rfl (by kernel_rfl) (Gives.call (args := [.agg (EL (mulL (invL (smL 2)) (smL 2))).toArray, .agg (EL (smL 1)).toArray]) rfl Tryd.func21 (by kernel_rfl) (by kernel_rfl) rfl (fun w' h => same_is (mulL_ok (invL_ok (smL_ok (by decide))) (smL_ok (by decide))) (smL_ok (by decide)) t_inv w')) ?_
    simp only [Act.put, List.setIfInBounds_toArray, List.set_cons_zero, List.set_cons_succ]
    refine .step (some 22) rfl rfl (by kernel_rfl) (Gives.pick (.tmp 15) (.tmp 21) (.const (.bool false)) rfl true (.bool true) rfl rfl) ?_
    simp only [Act.put, List.setIfInBounds_toArray, List.set_cons_zero, List.set_cons_succ]
    refine .step (some 23) rfl rfl (by kernel_rfl) (Gives.move (x := (.tmp 22)) rfl rfl) ?_
    simp only [Act.put, List.setIfInBounds_toArray, List.set_cons_zero, List.set_cons_succ]
    refine .step (some 24) rfl rfl (by kernel_rfl) (Gives.call (args := [.int .u32 1]) rfl Tryd.func38 (by kernel_rfl) (by kernel_rfl) rfl (fun w' h => sm_any 1 (by decide) w')) ?_
    simp only [Act.put, List.setIfInBounds_toArray, List.set_cons_zero, List.set_cons_succ]
    refine .step (some 25) rfl rfl (by kernel_rfl) (Gives.call (args := [.agg (EL (smL 1)).toArray]) rfl Tryd.func20 (by kernel_rfl) (by kernel_rfl) rfl (fun w' h => zero_is (smL_ok (by decide)) t_zero w')) ?_
    simp only [Act.put, List.setIfInBounds_toArray, List.set_cons_zero, List.set_cons_succ]
    refine .step (some 26) rfl rfl (by kernel_rfl) (Gives.unop .not 4 (.tmp 25) rfl (.bool false) (.bool true) rfl (fun w' => rfl)) ?_
    simp only [Act.put, List.setIfInBounds_toArray, List.set_cons_zero, List.set_cons_succ]
    refine .step (some 27) rfl rfl (by kernel_rfl) (Gives.pick (.tmp 23) (.tmp 26) (.const (.bool false)) rfl true (.bool true) rfl rfl) ?_
    simp only [Act.put, List.setIfInBounds_toArray, List.set_cons_zero, List.set_cons_succ]
    refine .step (some 0) rfl rfl (by kernel_rfl) (Gives.assign (x := (.tmp 27)) rfl rfl) ?_
    simp only [Act.put, List.setIfInBounds_toArray, List.set_cons_zero, List.set_cons_succ]
    exact .nil
  case hk1 => kernel_rfl
  case h1 =>
  intro W1 hb
  go_wp2_with fail
  go_ret
  exact ⟨rfl, hw2.trans (hb.mono hw2.size)⟩


theorem m_add (a b : Nat) : (a % pp + b) % pp = (a + b) % pp := Nat.mod_add_mod ..
theorem r_add (x y : Lm) : nu (addL x y) = nu (addL y x) := by rw [nu_addP, nu_addP, Nat.add_comm]
theorem r_mul (x y : Lm) : nu (mulL x y) = nu (mulL y x) := by rw [nu_mulP, nu_mulP, Nat.mul_comm]
theorem r_add3 (x y z : Lm) : nu (addL (addL x y) z) = nu (addL x (addL y z)) := by
  rw [nu_addP, nu_addP, nu_addP, nu_addP, Nat.mod_add_mod, Nat.add_mod_mod, Nat.add_assoc]
theorem r_mul3 (x y z : Lm) : nu (mulL (mulL x y) z) = nu (mulL x (mulL y z)) := by
  rw [nu_mulP, nu_mulP, nu_mulP, nu_mulP, Nat.mod_mul_mod, Nat.mul_mod_mod, Nat.mul_assoc]
theorem r_dist (x y z : Lm) : nu (mulL x (addL y z)) = nu (addL (mulL x y) (mulL x z)) := by
  rw [nu_mulP, nu_addP, nu_addP, nu_mulP, nu_mulP, Nat.mul_mod_mod, Nat.mod_add_mod, Nat.add_mod_mod, Nat.mul_add]
theorem r_sub (x : Lm) {y : Lm} (hy : y.ok) : nu (addL (subL x y) y) = nu x := by
  have h1 := nu_pp x
  have h2 := nu_pp y
  rw [nu_addP, nu_subP _ hy, Nat.mod_add_mod, show nu x + (pp - nu y) + nu y = nu x + pp by omega, Nat.add_mod_right, Nat.mod_eq_of_lt h1]
theorem r_neg {x : Lm} (hx : x.ok) : nu (addL x (negL x)) = 0 := by
  have h1 := nu_pp x
  rw [nu_addP, nu_negP hx, Nat.add_mod_mod, show nu x + (pp - nu x) = pp by omega, Nat.mod_self]
theorem r_one (x : Lm) : nu (mulL x (smL 1)) = nu x := by rw [nu_mulP, nu_smL (by decide), Nat.mul_one, nu_mod]
theorem r_inv (x : Lm) : decide (nu (mulL x (invL x)) = nu (smL 1)) = !decide (nu x = 0) := by
  rw [inv_one, nu_smL (by decide)]
  by_cases h : nu x = 0
  · rw [if_pos h, decide_eq_true h]; rfl
  · rw [if_neg h, decide_eq_false h]; rfl

set_option maxHeartbeats 6400000 in
theorem rules_law (a b c : Nat) (w : World) (hq : Gl w) :
    Calls Tryd.prog 8 #[.agg (By a 32).toArray, .agg (By b 32).toArray, .agg (By c 32).toArray] w fun e w' => e = .returned (.bool true) ∧ Below w.heap.size w w' := by
  have hr1 := ((Row.new w (By a 32) 22).alloc (.cells (By b 32).toArray 22)).alloc (.cells (By c 32).toArray 22)
  have hr2 := (Row.new1 w (.cells (By a 32).toArray 22) (By b 32) 22).alloc (.cells (By c 32).toArray 22)
  have hr3 := Row.new2 w (.cells (By a 32).toArray 22) (.cells (By b 32).toArray 22) (By c 32) 22
  have hb0 := Below.alloc3 w (.cells (By a 32).toArray 22) (.cells (By b 32).toArray 22) (.cells (By c 32).toArray 22)
  have hg0 := hq.belowAll hb0
  go_enter Tryd.func8, Tryd.ntmps8
  go_wp2_with fail
  generalize ((w.alloc (.cells (By a 32).toArray 22)).alloc (.cells (By b 32).toArray 22)).alloc (.cells (By c 32).toArray 22) = W0 at *
  refine wp_vars_three (aD := ?aD1) (B := W0.heap.size) (S := fun w' => Below W0.heap.size W0 w') (k1 := 6) (k2 := 7) (k3 := 8) (s1 := 9) (s2 := 10) (s3 := 11) (T1 := 26) (T2 := 26) (T3 := 26) (z1 := EL zeL) (z2 := EL zeL) (z3 := EL zeL) (c1 := EL (ofB a)) (c2 := EL (ofB b)) (c3 := EL (ofB c)) (x1 := .tmp 7) (y1 := .tmp 12) (x2 := .tmp 8) (y2 := .tmp 14) (x3 := .tmp 9) (y3 := .tmp 16)
    (vs := [(0, .agg (By a 32).toArray), (1, .agg (EL (ofB a)).toArray), (2, .agg (By b 32).toArray), (3, .agg (EL (ofB b)).toArray), (4, .agg (By c 32).toArray), (5, .agg (EL (ofB c)).toArray)]) (by kernel_rfl) ((Below.refl _ _).drew) (fun _ _ h k => S_trans h k) (fun _ _ cs h hg => S_row h hg cs) (fun _ h => h.size) ?hD1 (.of rfl rfl rfl (fun w' => el_alloc w')) (.of rfl rfl rfl (fun w' => el_alloc w')) (.of rfl rfl rfl (fun w' => el_alloc w')) ?hk1 (by decide) (by decide) (by decide) rfl rfl rfl rfl rfl rfl (some 7) (some 8) (some 9) rfl rfl rfl rfl rfl rfl rfl rfl rfl ?e1 ?e2 ?e3 ?e4 ?e5 ?e6 (el_info _) (EL_sz _ _) (EL_one _) (el_info _) (EL_sz _ _) (EL_one _) (el_info _) (EL_sz _ _) (EL_one _) ?h1
  case hD1 =>
    refine .step (some 11) rfl rfl (by kernel_rfl) (Gives.load_row 22 (.tmp 3) rfl (w.heap.size) rfl 22 _ (fun w' h => hr1.belowAll h) Tryd.underlying22 rfl (by_info _)) ?_
    simp only [Act.put, List.setIfInBounds_toArray, List.set_cons_zero, List.set_cons_succ]
    refine .step (some 12) rfl rfl (by kernel_rfl) (Gives.call (args := [.agg (By a 32).toArray]) rfl Tryd.func14 (by kernel_rfl) (by kernel_rfl) rfl (fun w' h => of_any a w')) ?_
    simp only [Act.put, List.setIfInBounds_toArray, List.set_cons_zero, List.set_cons_succ]
    refine .step (some 13) rfl rfl (by kernel_rfl) (Gives.load_row 22 (.tmp 4) rfl (w.heap.size + 1) rfl 22 _ (fun w' h => hr2.belowAll h) Tryd.underlying22 rfl (by_info _)) ?_
    simp only [Act.put, List.setIfInBounds_toArray, List.set_cons_zero, List.set_cons_succ]
    refine .step (some 14) rfl rfl (by kernel_rfl) (Gives.call (args := [.agg (By b 32).toArray]) rfl Tryd.func14 (by kernel_rfl) (by kernel_rfl) rfl (fun w' h => of_any b w')) ?_
    simp only [Act.put, List.setIfInBounds_toArray, List.set_cons_zero, List.set_cons_succ]
    refine .step (some 15) rfl rfl (by kernel_rfl) (Gives.load_row 22 (.tmp 5) rfl (w.heap.size + 1 + 1) rfl 22 _ (fun w' h => hr3.belowAll h) Tryd.underlying22 rfl (by_info _)) ?_
    simp only [Act.put, List.setIfInBounds_toArray, List.set_cons_zero, List.set_cons_succ]
    refine .step (some 16) rfl rfl (by kernel_rfl) (Gives.call (args := [.agg (By c 32).toArray]) rfl Tryd.func14 (by kernel_rfl) (by kernel_rfl) rfl (fun w' h => of_any c w')) ?_
    simp only [Act.put, List.setIfInBounds_toArray, List.set_cons_zero, List.set_cons_succ]
    exact .nil
  case hk1 => kernel_rfl
  case e1 => intro p q r; rfl
  case e2 => intro p q r; rfl
  case e3 => intro p q r; rfl
  case e4 => intro p q r; rfl
  case e5 => intro p q r; rfl
  case e6 => intro p q r; rfl
  case h1 =>
  intro p q r W1 hb hgp hgq hgr hpq hpr hqr hp0 hq0 hr0
  simp only [Act.put, List.setIfInBounds_toArray, List.set_cons_zero, List.set_cons_succ]
  have hg1 := hg0.belowAll hb
  have hw1 := hb0.trans (hb.mono hb0.size)
  clear hr1 hr2 hr3 hb0 hg0 hb
  have hx := ofB_ok a
  have hy := ofB_ok b
  have hz := ofB_ok c
  generalize ofB a = x at *
  generalize ofB b = y at *
  generalize ofB c = z at *
  go_wp2_with fail
  refine (sm_any 1 (by decide) _).mono ?_
  rintro e W2 ⟨rfl, hb2⟩
  have hs1 := Row.new W2 (EL zeL) 26
  have l1 := hp0.lt
  have l2 := hq0.lt
  have l3 := hr0.lt
  have l4 := hb2.size
  have hone := hs1.setRow (EL (smL 1))
  have hp1 := ((hp0.belowAll hb2).alloc (.cells (EL zeL).toArray 26)).setRowOther (k := W2.heap.size) (by omega) (EL (smL 1)).toArray
  have hq1 := ((hq0.belowAll hb2).alloc (.cells (EL zeL).toArray 26)).setRowOther (k := W2.heap.size) (by omega) (EL (smL 1)).toArray
  have hr1 := ((hr0.belowAll hb2).alloc (.cells (EL zeL).toArray 26)).setRowOther (k := W2.heap.size) (by omega) (EL (smL 1)).toArray
  have hbs := below_setRow (g := W2.heap.size) (hb2.alloc l4 (.cells (EL zeL).toArray 26)) l4 (EL (smL 1)).toArray
  have hgl := hg1.belowAll hbs
  have hw2 := hw1.trans (hbs.mono hw1.size)
  have HS1 := Lib.hid hs1
  clear hs1 hb2 hbs hg1 hw1 hp0 hq0 hr0
  go_wp2_with (refine wpList_store_row rfl 26 (.tmp 10) (.tmp 17) rfl W2.heap.size _ rfl rfl 26 _ HS1.out (el_info _) (EL_sz _ _) (EL_one _) ?_)
  rw [show (#[Value.int .u64 0, .int .u64 0, .int .u64 0, .int .u64 0, .int .u64 0] : Array Value) = (EL zeL).toArray from rfl]
  have hs := W2.heap.size
  generalize (W2.alloc (.cells (EL zeL).toArray 26)).setRow W2.heap.size (EL (smL 1)).toArray = W3 at *
  refine wp_flat_none (aD := ?aD3) (S := fun w' => Below W3.heap.size W3 w') (vs := [(0, .agg (EL x).toArray), (1, .agg (EL y).toArray), (2, .agg (EL (addL x y)).toArray), (3, .agg (EL y).toArray), (4, .agg (EL x).toArray), (5, .agg (EL (addL y x)).toArray), (6, .bool true), (7, .bool false), (8, .bool false), (9, .agg (EL x).toArray), (10, .agg (EL y).toArray), (11, .agg (EL (mulL x y)).toArray), (12, .agg (EL y).toArray), (13, .agg (EL x).toArray), (14, .agg (EL (mulL y x)).toArray), (15, .bool true), (16, .bool false), (17, .bool false), (18, .bool false), (19, .agg (EL x).toArray), (20, .agg (EL y).toArray), (21, .agg (EL (addL x y)).toArray), (22, .agg (EL z).toArray), (23, .agg (EL (addL (addL x y) z)).toArray), (24, .agg (EL x).toArray), (25, .agg (EL y).toArray), (26, .agg (EL z).toArray), (27, .agg (EL (addL y z)).toArray), (28, .agg (EL (addL x (addL y z))).toArray), (29, .bool true), (30, .bool false), (31, .bool false), (32, .bool false), (33, .agg (EL x).toArray), (34, .agg (EL y).toArray), (35, .agg (EL (mulL x y)).toArray), (36, .agg (EL z).toArray), (37, .agg (EL (mulL (mulL x y) z)).toArray), (38, .agg (EL x).toArray), (39, .agg (EL y).toArray), (40, .agg (EL z).toArray), (41, .agg (EL (mulL y z)).toArray), (42, .agg (EL (mulL x (mulL y z))).toArray), (43, .bool true), (44, .bool false), (45, .bool false)]) (by kernel_rfl) ((Below.refl _ _).drew) (fun _ _ h k => S_trans h k) ?hD3 ?hk3 ?h3
  case hD3 =>
    refine .step (some 18) rfl rfl (by kernel_rfl) (Gives.load_row 26 (.tmp 7) rfl (p) rfl 26 _ (fun w' h => hp1.belowAll h) Tryd.underlying26 rfl (el_info _)) ?_
    simp only [Act.put, List.setIfInBounds_toArray, List.set_cons_zero, List.set_cons_succ]
    refine .step (some 19) rfl rfl (by kernel_rfl) (Gives.load_row 26 (.tmp 8) rfl (q) rfl 26 _ (fun w' h => hq1.belowAll h) Tryd.underlying26 rfl (el_info _)) ?_
    simp only [Act.put, List.setIfInBounds_toArray, List.set_cons_zero, List.set_cons_succ]
    refine .step (some 20) rfl rfl (by kernel_rfl) (Gives.call (args := [.agg (EL x).toArray, .agg (EL y).toArray]) rfl Tryd.func27 (by kernel_rfl) (by kernel_rfl) rfl (fun w' h => add_any hx hy w')) ?_
    simp only [Act.put, List.setIfInBounds_toArray, List.set_cons_zero, List.set_cons_succ]
    refine .step (some 21) rfl rfl (by kernel_rfl) (Gives.load_row 26 (.tmp 8) rfl (q) rfl 26 _ (fun w' h => hq1.belowAll h) Tryd.underlying26 rfl (el_info _)) ?_
    simp only [Act.put, List.setIfInBounds_toArray, List.set_cons_zero, List.set_cons_succ]
    refine .step (some 22) rfl rfl (by kernel_rfl) (Gives.load_row 26 (.tmp 7) rfl (p) rfl 26 _ (fun w' h => hp1.belowAll h) Tryd.underlying26 rfl (el_info _)) ?_
    simp only [Act.put, List.setIfInBounds_toArray, List.set_cons_zero, List.set_cons_succ]
    refine .step (some 23) rfl rfl (by kernel_rfl) (Gives.call (args := [.agg (EL y).toArray, .agg (EL x).toArray]) rfl Tryd.func27 (by kernel_rfl) (by kernel_rfl) rfl (fun w' h => add_any hy hx w')) ?_
    simp only [Act.put, List.setIfInBounds_toArray, List.set_cons_zero, List.set_cons_succ]
    refine .step (some 24) rfl rfl (by kernel_rfl) (Gives.call (args := [.agg (EL (addL x y)).toArray, .agg (EL (addL y x)).toArray]) rfl Tryd.func21 (by kernel_rfl) (by kernel_rfl) rfl (fun w' h => same_is (addL_ok hx hy) (addL_ok hy hx) (dec_t (r_add x y)) w')) ?_
    simp only [Act.put, List.setIfInBounds_toArray, List.set_cons_zero, List.set_cons_succ]
    refine .step (some 25) rfl rfl (by kernel_rfl) (Gives.unop .not 4 (.tmp 24) rfl (.bool true) (.bool false) rfl (fun w' => rfl)) ?_
    simp only [Act.put, List.setIfInBounds_toArray, List.set_cons_zero, List.set_cons_succ]
    refine .step (some 26) rfl rfl (by kernel_rfl) (Gives.move (x := (.tmp 25)) rfl rfl) ?_
    simp only [Act.put, List.setIfInBounds_toArray, List.set_cons_zero, List.set_cons_succ]
    refine .step (some 27) rfl rfl (by kernel_rfl) (Gives.load_row 26 (.tmp 7) rfl (p) rfl 26 _ (fun w' h => hp1.belowAll h) Tryd.underlying26 rfl (el_info _)) ?_
    simp only [Act.put, List.setIfInBounds_toArray, List.set_cons_zero, List.set_cons_succ]
    refine .step (some 28) rfl rfl (by kernel_rfl) (Gives.load_row 26 (.tmp 8) rfl (q) rfl 26 _ (fun w' h => hq1.belowAll h) Tryd.underlying26 rfl (el_info _)) ?_
    simp only [Act.put, List.setIfInBounds_toArray, List.set_cons_zero, List.set_cons_succ]
    refine .step (some 29) rfl rfl (by kernel_rfl) (Gives.call (args := [.agg (EL x).toArray, .agg (EL y).toArray]) rfl Tryd.func31 (by kernel_rfl) (by kernel_rfl) rfl (fun w' h => mul_any hx hy w')) ?_
    simp only [Act.put, List.setIfInBounds_toArray, List.set_cons_zero, List.set_cons_succ]
    refine .step (some 30) rfl rfl (by kernel_rfl) (Gives.load_row 26 (.tmp 8) rfl (q) rfl 26 _ (fun w' h => hq1.belowAll h) Tryd.underlying26 rfl (el_info _)) ?_
    simp only [Act.put, List.setIfInBounds_toArray, List.set_cons_zero, List.set_cons_succ]
    refine .step (some 31) rfl rfl (by kernel_rfl) (Gives.load_row 26 (.tmp 7) rfl (p) rfl 26 _ (fun w' h => hp1.belowAll h) Tryd.underlying26 rfl (el_info _)) ?_
    simp only [Act.put, List.setIfInBounds_toArray, List.set_cons_zero, List.set_cons_succ]
    refine .step (some 32) rfl rfl (by kernel_rfl) (Gives.call (args := [.agg (EL y).toArray, .agg (EL x).toArray]) rfl Tryd.func31 (by kernel_rfl) (by kernel_rfl) rfl (fun w' h => mul_any hy hx w')) ?_
    simp only [Act.put, List.setIfInBounds_toArray, List.set_cons_zero, List.set_cons_succ]
    refine .step (some 33) rfl rfl (by kernel_rfl) (Gives.call (args := [.agg (EL (mulL x y)).toArray, .agg (EL (mulL y x)).toArray]) rfl Tryd.func21 (by kernel_rfl) (by kernel_rfl) rfl (fun w' h => same_is (mulL_ok hx hy) (mulL_ok hy hx) (dec_t (r_mul x y)) w')) ?_
    simp only [Act.put, List.setIfInBounds_toArray, List.set_cons_zero, List.set_cons_succ]
    refine .step (some 34) rfl rfl (by kernel_rfl) (Gives.unop .not 4 (.tmp 33) rfl (.bool true) (.bool false) rfl (fun w' => rfl)) ?_
    simp only [Act.put, List.setIfInBounds_toArray, List.set_cons_zero, List.set_cons_succ]
    refine .step (some 35) rfl rfl (by kernel_rfl) (Gives.pick (.tmp 26) (.const (.bool true)) (.tmp 34) rfl false (.bool false) rfl rfl) ?_
    simp only [Act.put, List.setIfInBounds_toArray, List.set_cons_zero, List.set_cons_succ]
    refine .step (some 36) rfl rfl (by kernel_rfl) (Gives.move (x := (.tmp 35)) rfl rfl) ?_
    simp only [Act.put, List.setIfInBounds_toArray, List.set_cons_zero, List.set_cons_succ]
    refine .step (some 37) rfl rfl (by kernel_rfl) (Gives.load_row 26 (.tmp 7) rfl (p) rfl 26 _ (fun w' h => hp1.belowAll h) Tryd.underlying26 rfl (el_info _)) ?_
    simp only [Act.put, List.setIfInBounds_toArray, List.set_cons_zero, List.set_cons_succ]
    refine .step (some 38) rfl rfl (by kernel_rfl) (Gives.load_row 26 (.tmp 8) rfl (q) rfl 26 _ (fun w' h => hq1.belowAll h) Tryd.underlying26 rfl (el_info _)) ?_
    simp only [Act.put, List.setIfInBounds_toArray, List.set_cons_zero, List.set_cons_succ]
    refine .step (some 39) rfl rfl (by kernel_rfl) (Gives.call (args := [.agg (EL x).toArray, .agg (EL y).toArray]) rfl Tryd.func27 (by kernel_rfl) (by kernel_rfl) rfl (fun w' h => add_any hx hy w')) ?_
    simp only [Act.put, List.setIfInBounds_toArray, List.set_cons_zero, List.set_cons_succ]
    refine .step (some 40) rfl rfl (by kernel_rfl) (Gives.load_row 26 (.tmp 9) rfl (r) rfl 26 _ (fun w' h => hr1.belowAll h) Tryd.underlying26 rfl (el_info _)) ?_
    simp only [Act.put, List.setIfInBounds_toArray, List.set_cons_zero, List.set_cons_succ]
    refine .step (some 41) rfl rfl (by kernel_rfl) (Gives.call (args := [.agg (EL (addL x y)).toArray, .agg (EL z).toArray]) rfl Tryd.func27 (by kernel_rfl) (by kernel_rfl) rfl (fun w' h => add_any (addL_ok hx hy) hz w')) ?_
    simp only [Act.put, List.setIfInBounds_toArray, List.set_cons_zero, List.set_cons_succ]
    refine .step (some 42) rfl rfl (by kernel_rfl) (Gives.load_row 26 (.tmp 7) rfl (p) rfl 26 _ (fun w' h => hp1.belowAll h) Tryd.underlying26 rfl (el_info _)) ?_
    simp only [Act.put, List.setIfInBounds_toArray, List.set_cons_zero, List.set_cons_succ]
    refine .step (some 43) rfl rfl (by kernel_rfl) (Gives.load_row 26 (.tmp 8) rfl (q) rfl 26 _ (fun w' h => hq1.belowAll h) Tryd.underlying26 rfl (el_info _)) ?_
    simp only [Act.put, List.setIfInBounds_toArray, List.set_cons_zero, List.set_cons_succ]
    refine .step (some 44) rfl rfl (by kernel_rfl) (Gives.load_row 26 (.tmp 9) rfl (r) rfl 26 _ (fun w' h => hr1.belowAll h) Tryd.underlying26 rfl (el_info _)) ?_
    simp only [Act.put, List.setIfInBounds_toArray, List.set_cons_zero, List.set_cons_succ]
    refine .step (some 45) rfl rfl (by kernel_rfl) (Gives.call (args := [.agg (EL y).toArray, .agg (EL z).toArray]) rfl Tryd.func27 (by kernel_rfl) (by kernel_rfl) rfl (fun w' h => add_any hy hz w')) ?_
    simp only [Act.put, List.setIfInBounds_toArray, List.set_cons_zero, List.set_cons_succ]
    refine .step (some 46) rfl rfl (by kernel_rfl) (Gives.call (args := [.agg (EL x).toArray, .agg (EL (addL y z)).toArray]) rfl Tryd.func27 (by kernel_rfl) (by kernel_rfl) rfl (fun w' h => add_any hx (addL_ok hy hz) w')) ?_
    simp only [Act.put, List.setIfInBounds_toArray, List.set_cons_zero, List.set_cons_succ]
    refine .step (some 47) rfl rfl (by kernel_rfl) (Gives.call (args := [.agg (EL (addL (addL x y) z)).toArray, .agg (EL (addL x (addL y z))).toArray]) rfl Tryd.func21 (by kernel_rfl) (by kernel_rfl) rfl (fun w' h => same_is (addL_ok (addL_ok hx hy) hz) (addL_ok hx (addL_ok hy hz)) (dec_t (r_add3 x y z)) w')) ?_
    simp only [Act.put, List.setIfInBounds_toArray, List.set_cons_zero, List.set_cons_succ]
    refine .step (some 48) rfl rfl (by kernel_rfl) (Gives.unop .not 4 (.tmp 47) rfl (.bool true) (.bool false) rfl (fun w' => rfl)) ?_
    simp only [Act.put, List.setIfInBounds_toArray, List.set_cons_zero, List.set_cons_succ]
    refine .step (some 49) rfl rfl (by kernel_rfl) (Gives.pick (.tmp 36) (.const (.bool true)) (.tmp 48) rfl false (.bool false) rfl rfl) ?_
    simp only [Act.put, List.setIfInBounds_toArray, List.set_cons_zero, List.set_cons_succ]
    refine .step (some 50) rfl rfl (by kernel_rfl) (Gives.move (x := (.tmp 49)) rfl rfl) ?_
    simp only [Act.put, List.setIfInBounds_toArray, List.set_cons_zero, List.set_cons_succ]
    refine .step (some 51) rfl rfl (by kernel_rfl) (Gives.load_row 26 (.tmp 7) rfl (p) rfl 26 _ (fun w' h => hp1.belowAll h) Tryd.underlying26 rfl (el_info _)) ?_
    simp only [Act.put, List.setIfInBounds_toArray, List.set_cons_zero, List.set_cons_succ]
    refine .step (some 52) rfl rfl (by kernel_rfl) (Gives.load_row 26 (.tmp 8) rfl (q) rfl 26 _ (fun w' h => hq1.belowAll h) Tryd.underlying26 rfl (el_info _)) ?_
    simp only [Act.put, List.setIfInBounds_toArray, List.set_cons_zero, List.set_cons_succ]
    refine .step (some 53) rfl rfl (by kernel_rfl) (Gives.call (args := [.agg (EL x).toArray, .agg (EL y).toArray]) rfl Tryd.func31 (by kernel_rfl) (by kernel_rfl) rfl (fun w' h => mul_any hx hy w')) ?_
    simp only [Act.put, List.setIfInBounds_toArray, List.set_cons_zero, List.set_cons_succ]
    refine .step (some 54) rfl rfl (by kernel_rfl) (Gives.load_row 26 (.tmp 9) rfl (r) rfl 26 _ (fun w' h => hr1.belowAll h) Tryd.underlying26 rfl (el_info _)) ?_
    simp only [Act.put, List.setIfInBounds_toArray, List.set_cons_zero, List.set_cons_succ]
    refine .step (some 55) rfl rfl (by kernel_rfl) (Gives.call (args := [.agg (EL (mulL x y)).toArray, .agg (EL z).toArray]) rfl Tryd.func31 (by kernel_rfl) (by kernel_rfl) rfl (fun w' h => mul_any (mulL_ok hx hy) hz w')) ?_
    simp only [Act.put, List.setIfInBounds_toArray, List.set_cons_zero, List.set_cons_succ]
    refine .step (some 56) rfl rfl (by kernel_rfl) (Gives.load_row 26 (.tmp 7) rfl (p) rfl 26 _ (fun w' h => hp1.belowAll h) Tryd.underlying26 rfl (el_info _)) ?_
    simp only [Act.put, List.setIfInBounds_toArray, List.set_cons_zero, List.set_cons_succ]
    refine .step (some 57) rfl rfl (by kernel_rfl) (Gives.load_row 26 (.tmp 8) rfl (q) rfl 26 _ (fun w' h => hq1.belowAll h) Tryd.underlying26 rfl (el_info _)) ?_
    simp only [Act.put, List.setIfInBounds_toArray, List.set_cons_zero, List.set_cons_succ]
    refine .step (some 58) rfl rfl (by kernel_rfl) (Gives.load_row 26 (.tmp 9) rfl (r) rfl 26 _ (fun w' h => hr1.belowAll h) Tryd.underlying26 rfl (el_info _)) ?_
    simp only [Act.put, List.setIfInBounds_toArray, List.set_cons_zero, List.set_cons_succ]
    refine .step (some 59) rfl rfl (by kernel_rfl) (Gives.call (args := [.agg (EL y).toArray, .agg (EL z).toArray]) rfl Tryd.func31 (by kernel_rfl) (by kernel_rfl) rfl (fun w' h => mul_any hy hz w')) ?_
    simp only [Act.put, List.setIfInBounds_toArray, List.set_cons_zero, List.set_cons_succ]
    refine .step (some 60) rfl rfl (by kernel_rfl) (Gives.call (args := [.agg (EL x).toArray, .agg (EL (mulL y z)).toArray]) rfl Tryd.func31 (by kernel_rfl) (by kernel_rfl) rfl (fun w' h => mul_any hx (mulL_ok hy hz) w')) ?_
    simp only [Act.put, List.setIfInBounds_toArray, List.set_cons_zero, List.set_cons_succ]
    refine .step (some 61) rfl rfl (by kernel_rfl) (Gives.call (args := [.agg (EL (mulL (mulL x y) z)).toArray, .agg (EL (mulL x (mulL y z))).toArray]) rfl Tryd.func21 (by kernel_rfl) (by kernel_rfl) rfl (fun w' h => same_is (mulL_ok (mulL_ok hx hy) hz) (mulL_ok hx (mulL_ok hy hz)) (dec_t (r_mul3 x y z)) w')) ?_
    simp only [Act.put, List.setIfInBounds_toArray, List.set_cons_zero, List.set_cons_succ]
    refine .step (some 62) rfl rfl (by kernel_rfl) (Gives.unop .not 4 (.tmp 61) rfl (.bool true) (.bool false) rfl (fun w' => rfl)) ?_
    simp only [Act.put, List.setIfInBounds_toArray, List.set_cons_zero, List.set_cons_succ]
    refine .step (some 63) rfl rfl (by kernel_rfl) (Gives.pick (.tmp 50) (.const (.bool true)) (.tmp 62) rfl false (.bool false) rfl rfl) ?_
    simp only [Act.put, List.setIfInBounds_toArray, List.set_cons_zero, List.set_cons_succ]
    exact .nil
  case hk3 => kernel_rfl
  case h3 =>
  intro W4 hb
  have hp2 := hp1.belowAll hb
  have hq2 := hq1.belowAll hb
  have hr2 := hr1.belowAll hb
  have hone2 := hone.belowAll hb
  have hgl2 := hgl.belowAll hb
  have hw4 := hw2.trans (hb.mono hw2.size)
  clear hp1 hq1 hr1 hone hgl hw2 hb
  go_wp2_with fail
  refine wp_flat_none (aD := ?aD5) (S := fun w' => Below W4.heap.size W4 w') (vs := [(0, .agg (EL x).toArray), (1, .agg (EL y).toArray), (2, .agg (EL z).toArray), (3, .agg (EL (addL y z)).toArray), (4, .agg (EL (mulL x (addL y z))).toArray), (5, .agg (EL x).toArray), (6, .agg (EL y).toArray), (7, .agg (EL (mulL x y)).toArray), (8, .agg (EL x).toArray), (9, .agg (EL z).toArray), (10, .agg (EL (mulL x z)).toArray), (11, .agg (EL (addL (mulL x y) (mulL x z))).toArray), (12, .bool true), (13, .bool false), (14, .bool false), (15, .agg (EL x).toArray), (16, .agg (EL y).toArray), (17, .agg (EL (subL x y)).toArray), (18, .agg (EL y).toArray), (19, .agg (EL (addL (subL x y) y)).toArray), (20, .agg (EL x).toArray), (21, .bool true), (22, .bool false), (23, .bool false), (24, .bool false), (25, .agg (EL x).toArray), (26, .agg (EL x).toArray), (27, .agg (EL (negL x)).toArray), (28, .agg (EL (addL x (negL x))).toArray), (29, .bool true), (30, .bool false), (31, .bool false), (32, .bool false), (33, .agg (EL x).toArray), (34, .agg (EL (smL 1)).toArray), (35, .agg (EL (mulL x (smL 1))).toArray), (36, .agg (EL x).toArray), (37, .bool true), (38, .bool false), (39, .bool false)]) (by kernel_rfl) ((Below.refl _ _).drew) (fun _ _ h k => S_trans h k) ?hD5 ?hk5 ?h5
  case hD5 =>
    refine .step (some 64) rfl rfl (by kernel_rfl) (Gives.load_row 26 (.tmp 7) rfl (p) rfl 26 _ (fun w' h => hp2.belowAll h) Tryd.underlying26 rfl (el_info _)) ?_
    simp only [Act.put, List.setIfInBounds_toArray, List.set_cons_zero, List.set_cons_succ]
    refine .step (some 65) rfl rfl (by kernel_rfl) (Gives.load_row 26 (.tmp 8) rfl (q) rfl 26 _ (fun w' h => hq2.belowAll h) Tryd.underlying26 rfl (el_info _)) ?_
    simp only [Act.put, List.setIfInBounds_toArray, List.set_cons_zero, List.set_cons_succ]
    refine .step (some 66) rfl rfl (by kernel_rfl) (Gives.load_row 26 (.tmp 9) rfl (r) rfl 26 _ (fun w' h => hr2.belowAll h) Tryd.underlying26 rfl (el_info _)) ?_
    simp only [Act.put, List.setIfInBounds_toArray, List.set_cons_zero, List.set_cons_succ]
    refine .step (some 67) rfl rfl (by kernel_rfl) (Gives.call (args := [.agg (EL y).toArray, .agg (EL z).toArray]) rfl Tryd.func27 (by kernel_rfl) (by kernel_rfl) rfl (fun w' h => add_any hy hz w')) ?_
    simp only [Act.put, List.setIfInBounds_toArray, List.set_cons_zero, List.set_cons_succ]
    refine .step (some 68) rfl rfl (by kernel_rfl) (Gives.call (args := [.agg (EL x).toArray, .agg (EL (addL y z)).toArray]) rfl Tryd.func31 (by kernel_rfl) (by kernel_rfl) rfl (fun w' h => mul_any hx (addL_ok hy hz) w')) ?_
    simp only [Act.put, List.setIfInBounds_toArray, List.set_cons_zero, List.set_cons_succ]
    refine .step (some 69) rfl rfl (by kernel_rfl) (Gives.load_row 26 (.tmp 7) rfl (p) rfl 26 _ (fun w' h => hp2.belowAll h) Tryd.underlying26 rfl (el_info _)) ?_
    simp only [Act.put, List.setIfInBounds_toArray, List.set_cons_zero, List.set_cons_succ]
    refine .step (some 70) rfl rfl (by kernel_rfl) (Gives.load_row 26 (.tmp 8) rfl (q) rfl 26 _ (fun w' h => hq2.belowAll h) Tryd.underlying26 rfl (el_info _)) ?_
    simp only [Act.put, List.setIfInBounds_toArray, List.set_cons_zero, List.set_cons_succ]
    refine .step (some 71) rfl rfl (by kernel_rfl) (Gives.call (args := [.agg (EL x).toArray, .agg (EL y).toArray]) rfl Tryd.func31 (by kernel_rfl) (by kernel_rfl) rfl (fun w' h => mul_any hx hy w')) ?_
    simp only [Act.put, List.setIfInBounds_toArray, List.set_cons_zero, List.set_cons_succ]
    refine .step (some 72) rfl rfl (by kernel_rfl) (Gives.load_row 26 (.tmp 7) rfl (p) rfl 26 _ (fun w' h => hp2.belowAll h) Tryd.underlying26 rfl (el_info _)) ?_
    simp only [Act.put, List.setIfInBounds_toArray, List.set_cons_zero, List.set_cons_succ]
    refine .step (some 73) rfl rfl (by kernel_rfl) (Gives.load_row 26 (.tmp 9) rfl (r) rfl 26 _ (fun w' h => hr2.belowAll h) Tryd.underlying26 rfl (el_info _)) ?_
    simp only [Act.put, List.setIfInBounds_toArray, List.set_cons_zero, List.set_cons_succ]
    refine .step (some 74) rfl rfl (by kernel_rfl) (Gives.call (args := [.agg (EL x).toArray, .agg (EL z).toArray]) rfl Tryd.func31 (by kernel_rfl) (by kernel_rfl) rfl (fun w' h => mul_any hx hz w')) ?_
    simp only [Act.put, List.setIfInBounds_toArray, List.set_cons_zero, List.set_cons_succ]
    refine .step (some 75) rfl rfl (by kernel_rfl) (Gives.call (args := [.agg (EL (mulL x y)).toArray, .agg (EL (mulL x z)).toArray]) rfl Tryd.func27 (by kernel_rfl) (by kernel_rfl) rfl (fun w' h => add_any (mulL_ok hx hy) (mulL_ok hx hz) w')) ?_
    simp only [Act.put, List.setIfInBounds_toArray, List.set_cons_zero, List.set_cons_succ]
    refine .step (some 76) rfl rfl (by kernel_rfl) (Gives.call (args := [.agg (EL (mulL x (addL y z))).toArray, .agg (EL (addL (mulL x y) (mulL x z))).toArray]) rfl Tryd.func21 (by kernel_rfl) (by kernel_rfl) rfl (fun w' h => same_is (mulL_ok hx (addL_ok hy hz)) (addL_ok (mulL_ok hx hy) (mulL_ok hx hz)) (dec_t (r_dist x y z)) w')) ?_
    simp only [Act.put, List.setIfInBounds_toArray, List.set_cons_zero, List.set_cons_succ]
    refine .step (some 77) rfl rfl (by kernel_rfl) (Gives.unop .not 4 (.tmp 76) rfl (.bool true) (.bool false) rfl (fun w' => rfl)) ?_
    simp only [Act.put, List.setIfInBounds_toArray, List.set_cons_zero, List.set_cons_succ]
    refine .step (some 78) rfl rfl (by kernel_rfl) (Gives.move (x := (.tmp 77)) rfl rfl) ?_
    simp only [Act.put, List.setIfInBounds_toArray, List.set_cons_zero, List.set_cons_succ]
    refine .step (some 79) rfl rfl (by kernel_rfl) (Gives.load_row 26 (.tmp 7) rfl (p) rfl 26 _ (fun w' h => hp2.belowAll h) Tryd.underlying26 rfl (el_info _)) ?_
    simp only [Act.put, List.setIfInBounds_toArray, List.set_cons_zero, List.set_cons_succ]
    refine .step (some 80) rfl rfl (by kernel_rfl) (Gives.load_row 26 (.tmp 8) rfl (q) rfl 26 _ (fun w' h => hq2.belowAll h) Tryd.underlying26 rfl (el_info _)) ?_
    simp only [Act.put, List.setIfInBounds_toArray, List.set_cons_zero, List.set_cons_succ]
    refine .step (some 81) rfl rfl (by kernel_rfl) (Gives.call (args := [.agg (EL x).toArray, .agg (EL y).toArray]) rfl Tryd.func29 (by kernel_rfl) (by kernel_rfl) rfl (fun w' h => sub_any hx hy w' (hgl2.belowAll h).en)) ?_
    simp only [Act.put, List.setIfInBounds_toArray, List.set_cons_zero, List.set_cons_succ]
    refine .step (some 82) rfl rfl (by kernel_rfl) (Gives.load_row 26 (.tmp 8) rfl (q) rfl 26 _ (fun w' h => hq2.belowAll h) Tryd.underlying26 rfl (el_info _)) ?_
    simp only [Act.put, List.setIfInBounds_toArray, List.set_cons_zero, List.set_cons_succ]
    refine .step (some 83) rfl rfl (by kernel_rfl) (Gives.call (args := [.agg (EL (subL x y)).toArray, .agg (EL y).toArray]) rfl Tryd.func27 (by kernel_rfl) (by kernel_rfl) rfl (fun w' h => add_any (subL_ok hx) hy w')) ?_
    simp only [Act.put, List.setIfInBounds_toArray, List.set_cons_zero, List.set_cons_succ]
    refine .step (some 84) rfl rfl (by kernel_rfl) (Gives.load_row 26 (.tmp 7) rfl (p) rfl 26 _ (fun w' h => hp2.belowAll h) Tryd.underlying26 rfl (el_info _)) ?_
    simp only [Act.put, List.setIfInBounds_toArray, List.set_cons_zero, List.set_cons_succ]
    refine .step (some 85) rfl rfl (by kernel_rfl) (Gives.call (args := [.agg (EL (addL (subL x y) y)).toArray, .agg (EL x).toArray]) rfl Tryd.func21 (by kernel_rfl) (by kernel_rfl) rfl (fun w' h => same_is (addL_ok (subL_ok hx) hy) hx (dec_t (r_sub x hy)) w')) ?_
    simp only [Act.put, List.setIfInBounds_toArray, List.set_cons_zero, List.set_cons_succ]
    refine .step (some 86) rfl rfl (by kernel_rfl) (Gives.unop .not 4 (.tmp 85) rfl (.bool true) (.bool false) rfl (fun w' => rfl)) ?_
    simp only [Act.put, List.setIfInBounds_toArray, List.set_cons_zero, List.set_cons_succ]
    refine .step (some 87) rfl rfl (by kernel_rfl) (Gives.pick (.tmp 78) (.const (.bool true)) (.tmp 86) rfl false (.bool false) rfl rfl) ?_
    simp only [Act.put, List.setIfInBounds_toArray, List.set_cons_zero, List.set_cons_succ]
    refine .step (some 88) rfl rfl (by kernel_rfl) (Gives.move (x := (.tmp 87)) rfl rfl) ?_
    simp only [Act.put, List.setIfInBounds_toArray, List.set_cons_zero, List.set_cons_succ]
    refine .step (some 89) rfl rfl (by kernel_rfl) (Gives.load_row 26 (.tmp 7) rfl (p) rfl 26 _ (fun w' h => hp2.belowAll h) Tryd.underlying26 rfl (el_info _)) ?_
    simp only [Act.put, List.setIfInBounds_toArray, List.set_cons_zero, List.set_cons_succ]
    refine .step (some 90) rfl rfl (by kernel_rfl) (Gives.load_row 26 (.tmp 7) rfl (p) rfl 26 _ (fun w' h => hp2.belowAll h) Tryd.underlying26 rfl (el_info _)) ?_
    simp only [Act.put, List.setIfInBounds_toArray, List.set_cons_zero, List.set_cons_succ]
    refine .step (some 91) rfl rfl (by kernel_rfl) (Gives.call (args := [.agg (EL x).toArray]) rfl Tryd.func33 (by kernel_rfl) (by kernel_rfl) rfl (fun w' h => neg_any hx w' (hgl2.belowAll h).en)) ?_
    simp only [Act.put, List.setIfInBounds_toArray, List.set_cons_zero, List.set_cons_succ]
    refine .step (some 92) rfl rfl (by kernel_rfl) (Gives.call (args := [.agg (EL x).toArray, .agg (EL (negL x)).toArray]) rfl Tryd.func27 (by kernel_rfl) (by kernel_rfl) rfl (fun w' h => add_any hx (negL_ok _) w')) ?_
    simp only [Act.put, List.setIfInBounds_toArray, List.set_cons_zero, List.set_cons_succ]
    refine .step (some 93) rfl rfl (by kernel_rfl) (Gives.call (args := [.agg (EL (addL x (negL x))).toArray]) rfl Tryd.func20 (by kernel_rfl) (by kernel_rfl) rfl (fun w' h => zero_is (addL_ok hx (negL_ok _)) (dec_t (r_neg hx)) w')) ?_
    simp only [Act.put, List.setIfInBounds_toArray, List.set_cons_zero, List.set_cons_succ]
    refine .step (some 94) rfl rfl (by kernel_rfl) (Gives.unop .not 4 (.tmp 93) rfl (.bool true) (.bool false) rfl (fun w' => rfl)) ?_
    simp only [Act.put, List.setIfInBounds_toArray, List.set_cons_zero, List.set_cons_succ]
    refine .step (some 95) rfl rfl (by kernel_rfl) (Gives.pick (.tmp 88) (.const (.bool true)) (.tmp 94) rfl false (.bool false) rfl rfl) ?_
    simp only [Act.put, List.setIfInBounds_toArray, List.set_cons_zero, List.set_cons_succ]
    refine .step (some 96) rfl rfl (by kernel_rfl) (Gives.move (x := (.tmp 95)) rfl rfl) ?_
    simp only [Act.put, List.setIfInBounds_toArray, List.set_cons_zero, List.set_cons_succ]
    refine .step (some 97) rfl rfl (by kernel_rfl) (Gives.load_row 26 (.tmp 7) rfl (p) rfl 26 _ (fun w' h => hp2.belowAll h) Tryd.underlying26 rfl (el_info _)) ?_
    simp only [Act.put, List.setIfInBounds_toArray, List.set_cons_zero, List.set_cons_succ]
    refine .step (some 98) rfl rfl (by kernel_rfl) (Gives.load_row 26 (.tmp 10) rfl (W2.heap.size) rfl 26 _ (fun w' h => hone2.belowAll h) Tryd.underlying26 rfl (el_info _)) ?_
    simp only [Act.put, List.setIfInBounds_toArray, List.set_cons_zero, List.set_cons_succ]
    refine .step (some 99) rfl rfl (by kernel_rfl) (Gives.call (args := [.agg (EL x).toArray, .agg (EL (smL 1)).toArray]) rfl Tryd.func31 (by kernel_rfl) (by kernel_rfl) rfl (fun w' h => mul_any hx (smL_ok (by decide)) w')) ?_
    simp only [Act.put, List.setIfInBounds_toArray, List.set_cons_zero, List.set_cons_succ]
    refine .step (some 100) rfl rfl (by kernel_rfl) (Gives.load_row 26 (.tmp 7) rfl (p) rfl 26 _ (fun w' h => hp2.belowAll h) Tryd.underlying26 rfl (el_info _)) ?_
    simp only [Act.put, List.setIfInBounds_toArray, List.set_cons_zero, List.set_cons_succ]
    refine .step (some 101) rfl rfl (by kernel_rfl) (Gives.call (args := [.agg (EL (mulL x (smL 1))).toArray, .agg (EL x).toArray]) rfl Tryd.func21 (by kernel_rfl) (by kernel_rfl) rfl (fun w' h => same_is (mulL_ok hx (smL_ok (by decide))) hx (dec_t (r_one x)) w')) ?_
    simp only [Act.put, List.setIfInBounds_toArray, List.set_cons_zero, List.set_cons_succ]
    refine .step (some 102) rfl rfl (by kernel_rfl) (Gives.unop .not 4 (.tmp 101) rfl (.bool true) (.bool false) rfl (fun w' => rfl)) ?_
    simp only [Act.put, List.setIfInBounds_toArray, List.set_cons_zero, List.set_cons_succ]
    refine .step (some 103) rfl rfl (by kernel_rfl) (Gives.pick (.tmp 96) (.const (.bool true)) (.tmp 102) rfl false (.bool false) rfl rfl) ?_
    simp only [Act.put, List.setIfInBounds_toArray, List.set_cons_zero, List.set_cons_succ]
    exact .nil
  case hk5 => kernel_rfl
  case h5 =>
  intro W5 hb
  have hp3 := hp2.belowAll hb
  have hone3 := hone2.belowAll hb
  have hgl3 := hgl2.belowAll hb
  have hw5 := hw4.trans (hb.mono hw4.size)
  clear hp2 hq2 hr2 hone2 hgl2 hw4 hb
  go_wp2_with fail
  refine wp_flat_none (aD := ?aD7) (S := fun w' => Below W5.heap.size W5 w') (vs := [(0, .agg (EL x).toArray), (1, .agg (EL x).toArray), (2, .agg (EL (invL x)).toArray), (3, .agg (EL (mulL x (invL x))).toArray), (4, .agg (EL (smL 1)).toArray), (5, .bool (!decide (nu x = 0))), (6, .agg (EL x).toArray), (7, .bool (decide (nu x = 0))), (8, .bool (!decide (nu x = 0))), (9, .bool true), (10, .bool true), (11, .bool true), (12, .bool true), (13, .bool true)]) (by kernel_rfl) ((Below.refl _ _).drew) (fun _ _ h k => S_trans h k) ?hD7 ?hk7 ?h7
  case hD7 =>
    refine .step (some 104) rfl rfl (by kernel_rfl) (Gives.load_row 26 (.tmp 7) rfl (p) rfl 26 _ (fun w' h => hp3.belowAll h) Tryd.underlying26 rfl (el_info _)) ?_
    simp only [Act.put, List.setIfInBounds_toArray, List.set_cons_zero, List.set_cons_succ]
    refine .step (some 105) rfl rfl (by kernel_rfl) (Gives.load_row 26 (.tmp 7) rfl (p) rfl 26 _ (fun w' h => hp3.belowAll h) Tryd.underlying26 rfl (el_info _)) ?_
    simp only [Act.put, List.setIfInBounds_toArray, List.set_cons_zero, List.set_cons_succ]
    refine .step (some 106) rfl rfl (by kernel_rfl) (Gives.call (args := [.agg (EL x).toArray]) rfl Tryd.func34 (by kernel_rfl) (by kernel_rfl) rfl (fun w' h => inv_any hx w')) ?_
    simp only [Act.put, List.setIfInBounds_toArray, List.set_cons_zero, List.set_cons_succ]
    refine .step (some 107) rfl rfl (by kernel_rfl) (Gives.call (args := [.agg (EL x).toArray, .agg (EL (invL x)).toArray]) rfl Tryd.func31 (by kernel_rfl) (by kernel_rfl) rfl (fun w' h => mul_any hx (invL_ok hx) w')) ?_
    simp only [Act.put, List.setIfInBounds_toArray, List.set_cons_zero, List.set_cons_succ]
    refine .step (some 108) rfl rfl (by kernel_rfl) (Gives.load_row 26 (.tmp 10) rfl (W2.heap.size) rfl 26 _ (fun w' h => hone3.belowAll h) Tryd.underlying26 rfl (el_info _)) ?_
    simp only [Act.put, List.setIfInBounds_toArray, List.set_cons_zero, List.set_cons_succ]
    refine .step (some 109) rfl rfl (by kernel_rfl) (Gives.call (args := [.agg (EL (mulL x (invL x))).toArray, .agg (EL (smL 1)).toArray]) rfl Tryd.func21 (by kernel_rfl) (by kernel_rfl) rfl (fun w' h => same_is (mulL_ok hx (invL_ok hx)) (smL_ok (by decide)) (r_inv x) w')) ?_
    simp only [Act.put, List.setIfInBounds_toArray, List.set_cons_zero, List.set_cons_succ]
    refine .step (some 110) rfl rfl (by kernel_rfl) (Gives.load_row 26 (.tmp 7) rfl (p) rfl 26 _ (fun w' h => hp3.belowAll h) Tryd.underlying26 rfl (el_info _)) ?_
    simp only [Act.put, List.setIfInBounds_toArray, List.set_cons_zero, List.set_cons_succ]
    refine .step (some 111) rfl rfl (by kernel_rfl) (Gives.call (args := [.agg (EL x).toArray]) rfl Tryd.func20 (by kernel_rfl) (by kernel_rfl) rfl (fun w' h => zero_is hx rfl w')) ?_
    simp only [Act.put, List.setIfInBounds_toArray, List.set_cons_zero, List.set_cons_succ]
    refine .step (some 112) rfl rfl (by kernel_rfl) (Gives.unop .not 4 (.tmp 111) rfl (.bool (decide (nu x = 0))) (.bool (!decide (nu x = 0))) rfl (fun w' => rfl)) ?_
    simp only [Act.put, List.setIfInBounds_toArray, List.set_cons_zero, List.set_cons_succ]
    refine .step (some 113) rfl rfl (by kernel_rfl) (Gives.binop .eql 4 4 (.tmp 109) (.tmp 112) rfl (.bool (!decide (nu x = 0))) (.bool (!decide (nu x = 0))) _ rfl rfl (fun w' => grd_bool _ _ _ w') (fun w' => bool_eq _ w')) ?_
    simp only [Act.put, List.setIfInBounds_toArray, List.set_cons_zero, List.set_cons_succ]
    refine .step (some 114) rfl rfl (by kernel_rfl) (Gives.move (x := (.tmp 113)) rfl rfl) ?_
    simp only [Act.put, List.setIfInBounds_toArray, List.set_cons_zero, List.set_cons_succ]
    refine .step (some 115) rfl rfl (by kernel_rfl) (Gives.call (args := []) rfl Tryd.func26 (by kernel_rfl) (by kernel_rfl) rfl (fun w' h => awake_any w' (hgl3.belowAll h))) ?_
    simp only [Act.put, List.setIfInBounds_toArray, List.set_cons_zero, List.set_cons_succ]
    refine .step (some 116) rfl rfl (by kernel_rfl) (Gives.pick (.tmp 114) (.tmp 115) (.const (.bool false)) rfl true (.bool true) rfl rfl) ?_
    simp only [Act.put, List.setIfInBounds_toArray, List.set_cons_zero, List.set_cons_succ]
    refine .step (some 6) rfl rfl (by kernel_rfl) (Gives.assign (x := (.tmp 116)) rfl rfl) ?_
    simp only [Act.put, List.setIfInBounds_toArray, List.set_cons_zero, List.set_cons_succ]
    exact .nil
  case hk7 => kernel_rfl
  case h7 =>
  intro W6 hb
  go_wp2_with fail
  go_ret
  exact ⟨rfl, hw5.trans (hb.mono hw5.size)⟩

end Go.Proofs.YthpbipebpaeagaaDoor
