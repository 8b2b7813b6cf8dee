/- The statement FieldRoots: the walk. -/
import Derived.Test.YthpbipebpaeagaaDoorNu
import Derived.Test.YthpbipebpaeagaaDoorRo
namespace Go.Proofs.YthpbipebpaeagaaDoor
set_option maxRecDepth 100000
set_option linter.unusedSimpArgs false
open Go.RowKit

theorem el_ext0 (x : Value) (b : Bool) (w : World) : (Instr.extract (.tuple #[x, .bool b]) 0).run Tryd.prog w = .ok x w := by rfl
theorem el_ext1 (x : Value) (b : Bool) (w : World) : (Instr.extract (.tuple #[x, .bool b]) 1).run Tryd.prog w = .ok (.bool b) w := by rfl
/-- The root of a square times the other. -/
theorem sq_quo {u v : Lm} (hv : nu v ≠ 0) : quo (mulL (mulL u u) v) v % pp = nu u * nu u % pp := by
  unfold quo
  have h1 : nu v * nu v ^ (pp - 2) % pp = 1 := inv_mul pp_prime (by rw [nu_mod]; exact hv)
  rw [nu_mulP, nu_mulP, Nat.mod_mul_mod, Nat.mul_assoc, Nat.mul_mod, h1, Nat.mul_one, Nat.mod_mod, Nat.mod_mod]
theorem sq_has {u v : Lm} (hv : nu v ≠ 0) : rootOk (mulL (mulL u u) v) v = true := root_some hv (sq_quo hv)
theorem sqr_root {u v : Lm} (hu : u.ok) (hvk : v.ok) (hv : nu v ≠ 0) : nu (rootL (mulL (mulL u u) v) v) = nu u ∨ nu (rootL (mulL (mulL u u) v) v) = nu (negL u) := by
  have h1 := rootL_sq (mulL_ok (mulL_ok hu hu) hvk) hvk hv (sq_has hv)
  rw [sq_quo hv] at h1
  generalize rootL (mulL (mulL u u) v) v = s at *
  have l1 := nu_pp s
  have l2 := nu_pp u
  rcases sq_eq pp_prime h1 with h | h
  · left
    rw [nu_mod, nu_mod] at h
    exact h
  · right
    rw [nu_negP hu]
    by_cases h0 : nu u = 0
    · rw [h0, Nat.add_zero, nu_mod] at h
      rw [h0, h, Nat.sub_zero, Nat.mod_self]
    · rw [Nat.mod_eq_of_lt (by omega)]
      have h2 : (nu s + nu u) / pp * pp = nu s + nu u := by have := Nat.div_add_mod (nu s + nu u) pp; rw [h] at this; rw [Nat.mul_comm]; omega
      have h3 : (nu s + nu u) / pp < 2 := (Nat.div_lt_iff_lt_mul (by decide)).2 (by omega)
      have h4 : (nu s + nu u) / pp ≠ 0 := fun e => by rw [e, Nat.zero_mul] at h2; omega
      have h5 : (nu s + nu u) / pp = 1 := by
        generalize (nu s + nu u) / pp = k at h3 h4 ⊢
        omega
      rw [h5, Nat.one_mul] at h2
      omega

set_option maxHeartbeats 6400000 in
theorem roots_law (a b : Nat) (w : World) (hq0 : Gl w) :
    Calls Tryd.prog 7 #[.agg (By a 32).toArray, .agg (By b 32).toArray] w fun e w' => e = .returned (.bool true) ∧ Below w.heap.size w w' := by
  have hr1 := (Row.new w (By a 32) 22).alloc (.cells (By b 32).toArray 22)
  have hr2 := Row.new1 w (.cells (By a 32).toArray 22) (By b 32) 22
  have hb0 := Below.alloc2 w (.cells (By a 32).toArray 22) (.cells (By b 32).toArray 22)
  have hg0 := hq0.belowAll hb0
  go_enter Tryd.func7, Tryd.ntmps7
  go_wp2_with fail
  generalize (w.alloc (.cells (By a 32).toArray 22)).alloc (.cells (By b 32).toArray 22) = W0 at *
  refine wp_vars_two (aD := ?aD1) (B := W0.heap.size) (S := fun w' => Below W0.heap.size W0 w') (k1 := 4) (s1 := 6) (T1 := 26) (L1 := 26) (z1 := EL zeL) (c1 := EL (ofB a)) (x1 := .tmp 5) (y1 := .tmp 14) (k2 := 5) (s2 := 7) (T2 := 26) (L2 := 26) (z2 := EL zeL) (c2 := EL (ofB b)) (x2 := .tmp 6) (y2 := .tmp 16)
    (vs := [(0, .agg (By a 32).toArray), (1, .agg (EL (ofB a)).toArray), (2, .agg (By b 32).toArray), (3, .agg (EL (ofB b)).toArray)]) (by kernel_rfl) ((Below.refl _ _).drew) (fun _ _ h k => S_trans h k) (fun _ _ cs h hg => S_row h hg cs) (fun _ h => h.size) ?hD1 (.of rfl rfl rfl (fun w' => el_alloc w')) (.of rfl rfl rfl (fun w' => el_alloc w')) ?hk1 (by decide) rfl rfl rfl rfl (some 5) (some 6) rfl rfl rfl rfl rfl rfl ?e1 ?f1 ?e2 ?f2 (el_info _) (EL_sz _ _) (EL_one _) (el_info _) (EL_sz _ _) (EL_one _) ?h1
  case hD1 =>
    refine .step (some 13) rfl rfl (by kernel_rfl) (Gives.load_row 22 (.tmp 2) rfl (w.heap.size) rfl 22 _ (fun w' h => hr1.belowAll h) Tryd.underlying22 rfl (by_info _)) ?_
    simp only [Act.put, List.setIfInBounds_toArray, List.set_cons_zero, List.set_cons_succ]
    refine .step (some 14) rfl rfl (by kernel_rfl) (Gives.call (args := [.agg (By a 32).toArray]) rfl Tryd.func14 (by kernel_rfl) (by kernel_rfl) rfl (fun w' h => of_any a w')) ?_
    simp only [Act.put, List.setIfInBounds_toArray, List.set_cons_zero, List.set_cons_succ]
    refine .step (some 15) rfl rfl (by kernel_rfl) (Gives.load_row 22 (.tmp 3) rfl (w.heap.size + 1) rfl 22 _ (fun w' h => hr2.belowAll h) Tryd.underlying22 rfl (by_info _)) ?_
    simp only [Act.put, List.setIfInBounds_toArray, List.set_cons_zero, List.set_cons_succ]
    refine .step (some 16) rfl rfl (by kernel_rfl) (Gives.call (args := [.agg (By b 32).toArray]) rfl Tryd.func14 (by kernel_rfl) (by kernel_rfl) rfl (fun w' h => of_any b w')) ?_
    simp only [Act.put, List.setIfInBounds_toArray, List.set_cons_zero, List.set_cons_succ]
    exact .nil
  case hk1 => kernel_rfl
  case e1 => intro p q; rfl
  case f1 => intro p q; rfl
  case e2 => intro p q; rfl
  case f2 => intro p q; rfl
  case h1 =>
  intro p q W1 hb hgp hgq hpq hp0 hq0
  simp only [Act.put, List.setIfInBounds_toArray, List.set_cons_zero, List.set_cons_succ]
  have hgl1 := hg0.belowAll hb
  have hw1 := hb0.trans (hb.mono hb0.size)
  have hr3 := hr1.belowAll hb
  have hr4 := hr2.belowAll hb
  clear hr1 hr2 hb0 hg0 hb
  have hu := ofB_ok a
  have hv := ofB_ok b
  have HOA := Lib.hid (fun wx => ofr_nu a wx)
  have HOB := Lib.hid (fun wx => ofr_nu b wx)
  generalize ofB a = u at *
  generalize ofB b = v at *
  have hr := rootL_ok hu hv
  have HR1 := Lib.hid (fun wx hq => root_any hu hv wx hq)
  have HRT := Lib.hid (fun wx => rootr_nu hu hv wx)
  have HU := Lib.hid hu
  generalize hre : rootL u v = r at *
  generalize hok : rootOk u v = ok at *
  clear hre hok
  have HP0 := Lib.hid hp0
  have HQ0 := Lib.hid hq0
  have HR3 := Lib.hid hr3
  have HR4 := Lib.hid hr4
  have HW1 := Lib.hid hw1
  clear hp0 hq0 hr3 hr4 hw1 hgp hgq hpq
  go_wp2_with (first
    | (refine wpList_load_row rfl 26 (.tmp 5) rfl p rfl 26 _ (0, 0) _ HP0.out Tryd.underlying26 rfl (el_info _) ?_)
    | (refine wpList_load_row rfl 26 (.tmp 6) rfl q rfl 26 _ (0, 0) _ HQ0.out Tryd.underlying26 rfl (el_info _) ?_))
  refine (HR1.out _ hgl1).mono ?_
  rintro e2 W2 ⟨rfl, hb2⟩
  have hp2 := HP0.out.belowAll hb2
  have hq2 := HQ0.out.belowAll hb2
  have hr5 := HR3.out.belowAll hb2
  have hr6 := HR4.out.belowAll hb2
  have hgl2 := hgl1.belowAll hb2
  have hw2 := HW1.out.trans (hb2.mono HW1.out.size)
  have l1 := hp2.lt
  have l2 := hq2.lt
  have l3 := hr5.lt
  have l4 := hr6.lt
  have e7 := Row.new W2 (EL zeL) 26
  have h73 := e7.setRow (EL r)
  have hp3 := (hp2.alloc (.cells (EL zeL).toArray 26)).setRowOther (k := W2.heap.size) (by omega) (EL r).toArray
  have hq3 := (hq2.alloc (.cells (EL zeL).toArray 26)).setRowOther (k := W2.heap.size) (by omega) (EL r).toArray
  have hr7 := (hr5.alloc (.cells (EL zeL).toArray 26)).setRowOther (k := W2.heap.size) (by omega) (EL r).toArray
  have hr8 := (hr6.alloc (.cells (EL zeL).toArray 26)).setRowOther (k := W2.heap.size) (by omega) (EL r).toArray
  have hb3 := below_setRow (g := W2.heap.size) ((Below.refl W2.heap.size W2).alloc (Nat.le_refl _) (.cells (EL zeL).toArray 26)) (Nat.le_refl _) (EL r).toArray
  have hgl3 := hgl2.belowAll hb3
  have hw3 := hw2.trans (hb3.mono hw2.size)
  have E7 := Lib.hid e7
  have H73 := Lib.hid h73
  have HP3 := Lib.hid hp3
  have HQ3 := Lib.hid hq3
  have HR7 := Lib.hid hr7
  have HR8 := Lib.hid hr8
  have HG3 := Lib.hid hgl3
  have HW3 := Lib.hid hw3
  clear hp2 hq2 hr5 hr6 hgl2 hw2 l1 l2 l3 l4 e7 h73 hp3 hq3 hr7 hr8 hb2 hb3 hgl3 hw3 hgl1 HP0 HQ0 HR3 HR4 HW1
  go_wp2_with (refine wpList_store_row rfl 26 (.tmp 7) (.tmp 21) rfl W2.heap.size _ rfl rfl 26 _ E7.out (el_info _) (EL_sz _ _) (EL_one _) ?_)
  have h73 := H73.out
  have hp3 := HP3.out
  have hq3 := HQ3.out
  have hr5 := HR7.out
  have hr6 := HR8.out
  have hgl3 := HG3.out
  have hw3 := HW3.out
  have hu := HU.out
  clear H73 HP3 HQ3 HR7 HR8 HG3 HW3 E7
  rw [show (#[Value.int .u64 0, .int .u64 0, .int .u64 0, .int .u64 0, .int .u64 0] : Array Value) = (EL zeL).toArray from rfl]
  obtain ⟨g7, hg7⟩ : ∃ g7, g7 = W2.heap.size := ⟨_, rfl⟩
  generalize (W2.alloc (.cells (EL zeL).toArray 26)).setRow W2.heap.size (EL r).toArray = W3 at *
  rw [← hg7] at *
  clear hg7
  refine wp_vars_one (aD := ?aD3) (B := W3.heap.size) (S := fun w' => Below W3.heap.size W3 w') (k1 := 8) (s1 := 9) (T1 := 30) (L1 := 30) (z1 := Nw 0) (c1 := Nw (nu r)) (x1 := .tmp 9) (y1 := .tmp 29)
    (vs := [(0, .agg (By a 32).toArray), (1, .agg (Nw (nu u)).toArray), (2, .agg (By b 32).toArray), (3, .agg (Nw (nu v)).toArray), (4, .tuple #[.agg (Nw (nu r)).toArray, .bool ok]), (5, .tuple #[.agg (Nw (nu r)).toArray, .bool ok]), (6, .agg (Nw (nu r)).toArray), (7, .bool ok), (10, .bool ok)]) (by kernel_rfl) ((Below.refl _ _).drew) (fun _ _ h k => S_trans h k) (fun _ _ _ h hg => S_row h hg _) (fun _ h => h.size) ?hD3 (.of rfl rfl rfl (fun w' => nw_alloc w')) ?hk3 rfl rfl (some 9) rfl rfl rfl ?e3 ?f3 (nw_info _) (Nw_sz _ _) (Nw_one _) ?h3
  case hD3 =>
    refine .step (some 24) rfl rfl (by kernel_rfl) (Gives.load_row 22 (.tmp 2) rfl (w.heap.size) rfl 22 _ (fun w' h => hr5.belowAll h) Tryd.underlying22 rfl (by_info _)) ?_
    simp only [Act.put, List.setIfInBounds_toArray, List.set_cons_zero, List.set_cons_succ]
    refine .step (some 25) rfl rfl (by kernel_rfl) (Gives.call (args := [.agg (By a 32).toArray]) rfl Tryd.func15 (by kernel_rfl) (by kernel_rfl) rfl (fun w' h => HOA.out w')) ?_
    simp only [Act.put, List.setIfInBounds_toArray, List.set_cons_zero, List.set_cons_succ]
    refine .step (some 26) rfl rfl (by kernel_rfl) (Gives.load_row 22 (.tmp 3) rfl (w.heap.size + 1) rfl 22 _ (fun w' h => hr6.belowAll h) Tryd.underlying22 rfl (by_info _)) ?_
    simp only [Act.put, List.setIfInBounds_toArray, List.set_cons_zero, List.set_cons_succ]
    refine .step (some 27) rfl rfl (by kernel_rfl) (Gives.call (args := [.agg (By b 32).toArray]) rfl Tryd.func15 (by kernel_rfl) (by kernel_rfl) rfl (fun w' h => HOB.out w')) ?_
    simp only [Act.put, List.setIfInBounds_toArray, List.set_cons_zero, List.set_cons_succ]
    refine .step (some 28) rfl rfl (by kernel_rfl) (Gives.call (args := [.agg (Nw (nu u)).toArray, .agg (Nw (nu v)).toArray]) rfl Tryd.func41 (by kernel_rfl) (by kernel_rfl) rfl (fun w' h => HRT.out w')) ?_
    simp only [Act.put, List.setIfInBounds_toArray, List.set_cons_zero, List.set_cons_succ]
    refine .step (some 23) rfl rfl (by kernel_rfl) (Gives.move (x := (.tmp 28)) rfl rfl) ?_
    simp only [Act.put, List.setIfInBounds_toArray, List.set_cons_zero, List.set_cons_succ]
    refine .step (some 29) rfl rfl (by kernel_rfl) (Gives.extract (.tmp 23) 0 rfl _ _ rfl (fun w' => nw_ext0 _ _ w')) ?_
    simp only [Act.put, List.setIfInBounds_toArray, List.set_cons_zero, List.set_cons_succ]
    refine .step (some 30) rfl rfl (by kernel_rfl) (Gives.extract (.tmp 23) 1 rfl _ _ rfl (fun w' => nw_ext1 _ _ w')) ?_
    simp only [Act.put, List.setIfInBounds_toArray, List.set_cons_zero, List.set_cons_succ]
    refine .step (some 10) rfl rfl (by kernel_rfl) (Gives.assign (x := (.tmp 30)) rfl rfl) ?_
    simp only [Act.put, List.setIfInBounds_toArray, List.set_cons_zero, List.set_cons_succ]
    exact .nil
  case hk3 => kernel_rfl
  case e3 => exact fun p => rfl
  case f3 => exact fun p => rfl
  case h3 =>
  intro g9 W4 hb4 hg9 h94
  have h74 := h73.belowAll hb4
  have hp4 := hp3.belowAll hb4
  have hq4 := hq3.belowAll hb4
  have hgl4 := hgl3.belowAll hb4
  have hw4 := hw3.trans (hb4.mono hw3.size)
  clear h73 hp3 hq3 hr5 hr6 hgl3 hw3 hb4
  go_wp2_with fail
  refine wp_flat_none (aD := ?aD4) (S := fun w' => Below W4.heap.size W4 w') (vs := [(0, .bool ok), (1, .bool ok), (2, .bool false), (3, .bool false), (4, .agg (EL r).toArray), (5, .agg (By (nu r) 32).toArray), (6, .agg (Nw (nu r)).toArray), (7, .agg (By (nu r) 32).toArray), (8, .bool false), (9, .bool false)]) (by kernel_rfl) ((Below.refl _ _).drew) (fun _ _ h k => S_trans h k) ?hD4 ?hk4 ?h4
  case hD4 =>
    refine .step (some 31) rfl rfl (by kernel_rfl) (Gives.move (x := (.tmp 8)) rfl rfl) ?_
    simp only [Act.put, List.setIfInBounds_toArray, List.set_cons_zero, List.set_cons_succ]
    refine .step (some 32) rfl rfl (by kernel_rfl) (Gives.move (x := (.tmp 10)) rfl rfl) ?_
    simp only [Act.put, List.setIfInBounds_toArray, List.set_cons_zero, List.set_cons_succ]
    refine .step (some 33) rfl rfl (by kernel_rfl) (Gives.binop .neq 4 4 (.tmp 31) (.tmp 32) rfl (.bool ok) (.bool ok) _ rfl rfl (fun w' => grd_boolne _ _ _ w') (fun w' => bool_ne _ w')) ?_
    simp only [Act.put, List.setIfInBounds_toArray, List.set_cons_zero, List.set_cons_succ]
    refine .step (some 34) rfl rfl (by kernel_rfl) (Gives.move (x := (.tmp 33)) rfl rfl) ?_
    simp only [Act.put, List.setIfInBounds_toArray, List.set_cons_zero, List.set_cons_succ]
    refine .step (some 35) rfl rfl (by kernel_rfl) (Gives.load_row 26 (.tmp 7) rfl (g7) rfl 26 _ (fun w' h => h74.belowAll h) Tryd.underlying26 rfl (el_info _)) ?_
    simp only [Act.put, List.setIfInBounds_toArray, List.set_cons_zero, List.set_cons_succ]
    refine .step (some 36) rfl rfl (by kernel_rfl) (Gives.call (args := [.agg (EL r).toArray]) rfl Tryd.func16 (by kernel_rfl) (by kernel_rfl) rfl (fun w' h => bytes_any hr w')) ?_
    simp only [Act.put, List.setIfInBounds_toArray, List.set_cons_zero, List.set_cons_succ]
    refine .step (some 37) rfl rfl (by kernel_rfl) (Gives.load_row 30 (.tmp 9) rfl (g9) rfl 30 _ (fun w' h => h94.belowAll h) Tryd.underlying30 rfl (nw_info _)) ?_
    simp only [Act.put, List.setIfInBounds_toArray, List.set_cons_zero, List.set_cons_succ]
    refine .step (some 38) rfl rfl (by kernel_rfl) (Gives.call (args := [.agg (Nw (nu r)).toArray]) rfl Tryd.func17 (by kernel_rfl) (by kernel_rfl) rfl (fun w' h => rbytes_ref (nu r) w')) ?_
    simp only [Act.put, List.setIfInBounds_toArray, List.set_cons_zero, List.set_cons_succ]
    refine .step (some 39) rfl rfl (by kernel_rfl) (Gives.binop .neq 22 22 (.tmp 36) (.tmp 38) rfl (.agg (By (nu r) 32).toArray) (.agg (By (nu r) 32).toArray) _ rfl rfl (fun w' => bgrd _ _ _ _ _ w') (fun w' => bne_same rfl w')) ?_
    simp only [Act.put, List.setIfInBounds_toArray, List.set_cons_zero, List.set_cons_succ]
    refine .step (some 40) rfl rfl (by kernel_rfl) (Gives.pick (.tmp 34) (.const (.bool true)) (.tmp 39) rfl false (.bool false) rfl rfl) ?_
    simp only [Act.put, List.setIfInBounds_toArray, List.set_cons_zero, List.set_cons_succ]
    exact .nil
  case hk4 => kernel_rfl
  case h4 =>
  intro W5 hb5
  have hp5 := hp4.belowAll hb5
  have hq5 := hq4.belowAll hb5
  have hgl5 := hgl4.belowAll hb5
  have hw5 := hw4.trans (hb5.mono hw4.size)
  clear h74 h94 hp4 hq4 hgl4 hw4 hb5 HR1 HRT HOA HOB HU
  have hs := rootL_ok (mulL_ok (mulL_ok hu hu) hv) hv
  have hroot := fun wx hq => root_any (mulL_ok (mulL_ok hu hu) hv) hv wx hq
  by_cases hv0 : nu v = 0
  · have hno := root_none (u := mulL (mulL u u) v) hv0
    have hzv : decide (nu v = 0) = true := decide_eq_true hv0
    rw [hno] at hroot
    have HR2 := Lib.hid hroot
    clear hno hroot hv0
    generalize rootL (mulL (mulL u u) v) v = s at *
    go_wp2_with fail
    refine wp_vars_one (aD := ?aD6z) (B := W5.heap.size) (S := fun w' => Below W5.heap.size W5 w') (k1 := 10) (s1 := 11) (T1 := 26) (L1 := 26) (z1 := EL zeL) (c1 := EL s) (x1 := .tmp 11) (y1 := .tmp 49)
      (vs := [(0, .agg (EL u).toArray), (1, .agg (EL u).toArray), (2, .agg (EL (mulL u u)).toArray), (3, .agg (EL v).toArray), (4, .agg (EL (mulL (mulL u u) v)).toArray), (5, .agg (EL v).toArray), (6, .tuple #[.agg (EL s).toArray, .bool false]), (7, .tuple #[.agg (EL s).toArray, .bool false]), (8, .agg (EL s).toArray), (9, .bool false), (12, .bool false)]) (by kernel_rfl) ((Below.refl _ _).drew) (fun _ _ h k => S_trans h k) (fun _ _ _ h hg => S_row h hg _) (fun _ h => h.size) ?hD6z (.of rfl rfl rfl (fun w' => el_alloc w')) ?hk6z rfl rfl (some 11) rfl rfl rfl ?e6z ?f6z (el_info _) (EL_sz _ _) (EL_one _) ?h6z
    case hD6z =>
      refine .step (some 42) rfl rfl (by kernel_rfl) (Gives.load_row 26 (.tmp 5) rfl (p) rfl 26 _ (fun w' h => hp5.belowAll h) Tryd.underlying26 rfl (el_info _)) ?_
      simp only [Act.put, List.setIfInBounds_toArray, List.set_cons_zero, List.set_cons_succ]
      refine .step (some 43) rfl rfl (by kernel_rfl) (Gives.load_row 26 (.tmp 5) rfl (p) rfl 26 _ (fun w' h => hp5.belowAll h) Tryd.underlying26 rfl (el_info _)) ?_
      simp only [Act.put, List.setIfInBounds_toArray, List.set_cons_zero, List.set_cons_succ]
      refine .step (some 44) rfl rfl (by kernel_rfl) (Gives.call (args := [.agg (EL u).toArray, .agg (EL u).toArray]) rfl Tryd.func31 (by kernel_rfl) (by kernel_rfl) rfl (fun w' h => mul_any hu hu w')) ?_
      simp only [Act.put, List.setIfInBounds_toArray, List.set_cons_zero, List.set_cons_succ]
      refine .step (some 45) rfl rfl (by kernel_rfl) (Gives.load_row 26 (.tmp 6) rfl (q) rfl 26 _ (fun w' h => hq5.belowAll h) Tryd.underlying26 rfl (el_info _)) ?_
      simp only [Act.put, List.setIfInBounds_toArray, List.set_cons_zero, List.set_cons_succ]
      refine .step (some 46) rfl rfl (by kernel_rfl) (Gives.call (args := [.agg (EL (mulL u u)).toArray, .agg (EL v).toArray]) rfl Tryd.func31 (by kernel_rfl) (by kernel_rfl) rfl (fun w' h => mul_any (mulL_ok hu hu) hv w')) ?_
      simp only [Act.put, List.setIfInBounds_toArray, List.set_cons_zero, List.set_cons_succ]
      refine .step (some 47) rfl rfl (by kernel_rfl) (Gives.load_row 26 (.tmp 6) rfl (q) rfl 26 _ (fun w' h => hq5.belowAll h) Tryd.underlying26 rfl (el_info _)) ?_
      simp only [Act.put, List.setIfInBounds_toArray, List.set_cons_zero, List.set_cons_succ]
      refine .step (some 48) rfl rfl (by kernel_rfl) (Gives.call (args := [.agg (EL (mulL (mulL u u) v)).toArray, .agg (EL v).toArray]) rfl Tryd.func40 (by kernel_rfl) (by kernel_rfl) rfl (fun w' h => HR2.out w' (hgl5.belowAll h))) ?_
      simp only [Act.put, List.setIfInBounds_toArray, List.set_cons_zero, List.set_cons_succ]
      refine .step (some 41) rfl rfl (by kernel_rfl) (Gives.move (x := (.tmp 48)) rfl rfl) ?_
      simp only [Act.put, List.setIfInBounds_toArray, List.set_cons_zero, List.set_cons_succ]
      refine .step (some 49) rfl rfl (by kernel_rfl) (Gives.extract (.tmp 41) 0 rfl _ _ rfl (fun w' => el_ext0 _ _ w')) ?_
      simp only [Act.put, List.setIfInBounds_toArray, List.set_cons_zero, List.set_cons_succ]
      refine .step (some 50) rfl rfl (by kernel_rfl) (Gives.extract (.tmp 41) 1 rfl _ _ rfl (fun w' => el_ext1 _ _ w')) ?_
      simp only [Act.put, List.setIfInBounds_toArray, List.set_cons_zero, List.set_cons_succ]
      refine .step (some 12) rfl rfl (by kernel_rfl) (Gives.assign (x := (.tmp 50)) rfl rfl) ?_
      simp only [Act.put, List.setIfInBounds_toArray, List.set_cons_zero, List.set_cons_succ]
      exact .nil
    case hk6z => kernel_rfl
    case e6z => exact fun p => rfl
    case f6z => exact fun p => rfl
    case h6z =>
    intro g11 W6 hb6 hg11 h116
    have hp6 := hp5.belowAll hb6
    have hq6 := hq5.belowAll hb6
    have hgl6 := hgl5.belowAll hb6
    have hw6 := hw5.trans (hb6.mono hw5.size)
    clear hp5 hq5 hgl5 hw5 hb6
    go_wp2_with fail
    refine wp_flat_none (aD := ?aD7z) (S := fun w' => Below W6.heap.size W6 w') (vs := [(0, .bool false), (1, .agg (EL v).toArray), (2, .bool true), (3, .bool false), (4, .bool true), (5, .bool true), (6, .bool false), (7, .bool true), (8, .bool true), (9, undef), (10, undef), (11, undef), (12, .bool true), (13, .bool true), (14, undef), (15, undef), (16, undef), (17, undef), (18, .bool true), (19, .bool true), (20, .bool true), (21, .bool true), (22, .bool true), (23, .bool true)]) (by kernel_rfl) ((Below.refl _ _).drew) (fun _ _ h k => S_trans h k) ?hD7z ?hk7z ?h7z
    case hD7z =>
      refine .step (some 51) rfl rfl (by kernel_rfl) (Gives.move (x := (.tmp 12)) rfl rfl) ?_
      simp only [Act.put, List.setIfInBounds_toArray, List.set_cons_zero, List.set_cons_succ]
      refine .step (some 52) rfl rfl (by kernel_rfl) (Gives.load_row 26 (.tmp 6) rfl (q) rfl 26 _ (fun w' h => hq6.belowAll h) Tryd.underlying26 rfl (el_info _)) ?_
      simp only [Act.put, List.setIfInBounds_toArray, List.set_cons_zero, List.set_cons_succ]
      refine .step (some 53) rfl rfl (by kernel_rfl) (Gives.call (args := [.agg (EL v).toArray]) rfl Tryd.func20 (by kernel_rfl) (by kernel_rfl) rfl (fun w' h => zero_is hv hzv w')) ?_
      simp only [Act.put, List.setIfInBounds_toArray, List.set_cons_zero, List.set_cons_succ]
      refine .step (some 54) rfl rfl (by kernel_rfl) (Gives.unop .not 4 (.tmp 53) rfl (.bool true) (.bool false) rfl (fun w' => rfl)) ?_
      simp only [Act.put, List.setIfInBounds_toArray, List.set_cons_zero, List.set_cons_succ]
      refine .step (some 55) rfl rfl (by kernel_rfl) (Gives.binop .eql 4 4 (.tmp 51) (.tmp 54) rfl (.bool false) (.bool false) _ rfl rfl (fun w' => grd_bool _ _ _ w') (fun w' => bool_eq _ w')) ?_
      simp only [Act.put, List.setIfInBounds_toArray, List.set_cons_zero, List.set_cons_succ]
      refine .step (some 56) rfl rfl (by kernel_rfl) (Gives.move (x := (.tmp 55)) rfl rfl) ?_
      simp only [Act.put, List.setIfInBounds_toArray, List.set_cons_zero, List.set_cons_succ]
      refine .step (some 57) rfl rfl (by kernel_rfl) (Gives.move (x := (.tmp 12)) rfl rfl) ?_
      simp only [Act.put, List.setIfInBounds_toArray, List.set_cons_zero, List.set_cons_succ]
      refine .step (some 58) rfl rfl (by kernel_rfl) (Gives.unop .not 4 (.tmp 57) rfl (.bool false) (.bool true) rfl (fun w' => rfl)) ?_
      simp only [Act.put, List.setIfInBounds_toArray, List.set_cons_zero, List.set_cons_succ]
      refine .step (some 59) rfl rfl (by kernel_rfl) (Gives.move (x := (.tmp 58)) rfl rfl) ?_
      simp only [Act.put, List.setIfInBounds_toArray, List.set_cons_zero, List.set_cons_succ]
      refine .stepSkip (some 60) rfl rfl (by kernel_rfl) ?_
      simp only [Act.put, List.setIfInBounds_toArray, List.set_cons_zero, List.set_cons_succ]
      refine .stepSkip (some 61) rfl rfl (by kernel_rfl) ?_
      simp only [Act.put, List.setIfInBounds_toArray, List.set_cons_zero, List.set_cons_succ]
      refine .stepSkip (some 62) rfl rfl (by kernel_rfl) ?_
      simp only [Act.put, List.setIfInBounds_toArray, List.set_cons_zero, List.set_cons_succ]
      refine .step (some 63) rfl rfl (by kernel_rfl) (Gives.pick (.tmp 59) (.const (.bool true)) (.tmp 62) rfl true (.bool true) rfl rfl) ?_
      simp only [Act.put, List.setIfInBounds_toArray, List.set_cons_zero, List.set_cons_succ]
      refine .step (some 64) rfl rfl (by kernel_rfl) (Gives.move (x := (.tmp 63)) rfl rfl) ?_
      simp only [Act.put, List.setIfInBounds_toArray, List.set_cons_zero, List.set_cons_succ]
      refine .stepSkip (some 65) rfl rfl (by kernel_rfl) ?_
      simp only [Act.put, List.setIfInBounds_toArray, List.set_cons_zero, List.set_cons_succ]
      refine .stepSkip (some 66) rfl rfl (by kernel_rfl) ?_
      simp only [Act.put, List.setIfInBounds_toArray, List.set_cons_zero, List.set_cons_succ]
      refine .stepSkip (some 67) rfl rfl (by kernel_rfl) ?_
      simp only [Act.put, List.setIfInBounds_toArray, List.set_cons_zero, List.set_cons_succ]
      refine .stepSkip (some 68) rfl rfl (by kernel_rfl) ?_
      simp only [Act.put, List.setIfInBounds_toArray, List.set_cons_zero, List.set_cons_succ]
      refine .step (some 69) rfl rfl (by kernel_rfl) (Gives.pick (.tmp 64) (.const (.bool true)) (.tmp 68) rfl true (.bool true) rfl rfl) ?_
      simp only [Act.put, List.setIfInBounds_toArray, List.set_cons_zero, List.set_cons_succ]
      refine .step (some 70) rfl rfl (by kernel_rfl) (Gives.pick (.tmp 56) (.tmp 69) (.const (.bool false)) rfl true (.bool true) rfl rfl) ?_
      simp only [Act.put, List.setIfInBounds_toArray, List.set_cons_zero, List.set_cons_succ]
      refine .step (some 71) rfl rfl (by kernel_rfl) (Gives.move (x := (.tmp 70)) rfl rfl) ?_
      simp only [Act.put, List.setIfInBounds_toArray, List.set_cons_zero, List.set_cons_succ]
      refine .step (some 72) rfl rfl (by kernel_rfl) (Gives.call (args := []) rfl Tryd.func26 (by kernel_rfl) (by kernel_rfl) rfl (fun w' h => awake_any w' (hgl6.belowAll h))) ?_
      simp only [Act.put, List.setIfInBounds_toArray, List.set_cons_zero, List.set_cons_succ]
      refine .step (some 73) rfl rfl (by kernel_rfl) (Gives.pick (.tmp 71) (.tmp 72) (.const (.bool false)) rfl true (.bool true) rfl rfl) ?_
      simp only [Act.put, List.setIfInBounds_toArray, List.set_cons_zero, List.set_cons_succ]
      refine .step (some 4) rfl rfl (by kernel_rfl) (Gives.assign (x := (.tmp 73)) rfl rfl) ?_
      simp only [Act.put, List.setIfInBounds_toArray, List.set_cons_zero, List.set_cons_succ]
      exact .nil
    case hk7z => kernel_rfl
    case h7z =>
    intro W7 hb7
    go_wp2_with fail
    go_ret
    exact ⟨rfl, hw6.trans (hb7.mono hw6.size)⟩

  · have hyes := sq_has (u := u) hv0
    have hzv : decide (nu v = 0) = false := decide_eq_false hv0
    have hsq := sqr_root hu hv hv0
    rw [hyes] at hroot
    have HR2 := Lib.hid hroot
    clear hyes hroot hv0
    generalize rootL (mulL (mulL u u) v) v = s at *
    by_cases hsu0 : nu s = nu u
    · have hsu : decide (nu s = nu u) = true := decide_eq_true hsu0
      clear hsq hsu0
      go_wp2_with fail
      refine wp_vars_one (aD := ?aD6u) (B := W5.heap.size) (S := fun w' => Below W5.heap.size W5 w') (k1 := 10) (s1 := 11) (T1 := 26) (L1 := 26) (z1 := EL zeL) (c1 := EL s) (x1 := .tmp 11) (y1 := .tmp 49)
        (vs := [(0, .agg (EL u).toArray), (1, .agg (EL u).toArray), (2, .agg (EL (mulL u u)).toArray), (3, .agg (EL v).toArray), (4, .agg (EL (mulL (mulL u u) v)).toArray), (5, .agg (EL v).toArray), (6, .tuple #[.agg (EL s).toArray, .bool true]), (7, .tuple #[.agg (EL s).toArray, .bool true]), (8, .agg (EL s).toArray), (9, .bool true), (12, .bool true)]) (by kernel_rfl) ((Below.refl _ _).drew) (fun _ _ h k => S_trans h k) (fun _ _ _ h hg => S_row h hg _) (fun _ h => h.size) ?hD6u (.of rfl rfl rfl (fun w' => el_alloc w')) ?hk6u rfl rfl (some 11) rfl rfl rfl ?e6u ?f6u (el_info _) (EL_sz _ _) (EL_one _) ?h6u
      case hD6u =>
        refine .step (some 42) rfl rfl (by kernel_rfl) (Gives.load_row 26 (.tmp 5) rfl (p) rfl 26 _ (fun w' h => hp5.belowAll h) Tryd.underlying26 rfl (el_info _)) ?_
        simp only [Act.put, List.setIfInBounds_toArray, List.set_cons_zero, List.set_cons_succ]
        refine .step (some 43) rfl rfl (by kernel_rfl) (Gives.load_row 26 (.tmp 5) rfl (p) rfl 26 _ (fun w' h => hp5.belowAll h) Tryd.underlying26 rfl (el_info _)) ?_
        simp only [Act.put, List.setIfInBounds_toArray, List.set_cons_zero, List.set_cons_succ]
        refine .step (some 44) rfl rfl (by kernel_rfl) (Gives.call (args := [.agg (EL u).toArray, .agg (EL u).toArray]) rfl Tryd.func31 (by kernel_rfl) (by kernel_rfl) rfl (fun w' h => mul_any hu hu w')) ?_
        simp only [Act.put, List.setIfInBounds_toArray, List.set_cons_zero, List.set_cons_succ]
        refine .step (some 45) rfl rfl (by kernel_rfl) (Gives.load_row 26 (.tmp 6) rfl (q) rfl 26 _ (fun w' h => hq5.belowAll h) Tryd.underlying26 rfl (el_info _)) ?_
        simp only [Act.put, List.setIfInBounds_toArray, List.set_cons_zero, List.set_cons_succ]
        refine .step (some 46) rfl rfl (by kernel_rfl) (Gives.call (args := [.agg (EL (mulL u u)).toArray, .agg (EL v).toArray]) rfl Tryd.func31 (by kernel_rfl) (by kernel_rfl) rfl (fun w' h => mul_any (mulL_ok hu hu) hv w')) ?_
        simp only [Act.put, List.setIfInBounds_toArray, List.set_cons_zero, List.set_cons_succ]
        refine .step (some 47) rfl rfl (by kernel_rfl) (Gives.load_row 26 (.tmp 6) rfl (q) rfl 26 _ (fun w' h => hq5.belowAll h) Tryd.underlying26 rfl (el_info _)) ?_
        simp only [Act.put, List.setIfInBounds_toArray, List.set_cons_zero, List.set_cons_succ]
        refine .step (some 48) rfl rfl (by kernel_rfl) (Gives.call (args := [.agg (EL (mulL (mulL u u) v)).toArray, .agg (EL v).toArray]) rfl Tryd.func40 (by kernel_rfl) (by kernel_rfl) rfl (fun w' h => HR2.out w' (hgl5.belowAll h))) ?_
        simp only [Act.put, List.setIfInBounds_toArray, List.set_cons_zero, List.set_cons_succ]
        refine .step (some 41) rfl rfl (by kernel_rfl) (Gives.move (x := (.tmp 48)) rfl rfl) ?_
        simp only [Act.put, List.setIfInBounds_toArray, List.set_cons_zero, List.set_cons_succ]
        refine .step (some 49) rfl rfl (by kernel_rfl) (Gives.extract (.tmp 41) 0 rfl _ _ rfl (fun w' => el_ext0 _ _ w')) ?_
        simp only [Act.put, List.setIfInBounds_toArray, List.set_cons_zero, List.set_cons_succ]
        refine .step (some 50) rfl rfl (by kernel_rfl) (Gives.extract (.tmp 41) 1 rfl _ _ rfl (fun w' => el_ext1 _ _ w')) ?_
        simp only [Act.put, List.setIfInBounds_toArray, List.set_cons_zero, List.set_cons_succ]
        refine .step (some 12) rfl rfl (by kernel_rfl) (Gives.assign (x := (.tmp 50)) rfl rfl) ?_
        simp only [Act.put, List.setIfInBounds_toArray, List.set_cons_zero, List.set_cons_succ]
        exact .nil
      case hk6u => kernel_rfl
      case e6u => exact fun p => rfl
      case f6u => exact fun p => rfl
      case h6u =>
      intro g11 W6 hb6 hg11 h116
      have hp6 := hp5.belowAll hb6
      have hq6 := hq5.belowAll hb6
      have hgl6 := hgl5.belowAll hb6
      have hw6 := hw5.trans (hb6.mono hw5.size)
      clear hp5 hq5 hgl5 hw5 hb6
      go_wp2_with fail
      refine wp_flat_none (aD := ?aD7u) (S := fun w' => Below W6.heap.size W6 w') (vs := [(0, .bool true), (1, .agg (EL v).toArray), (2, .bool false), (3, .bool true), (4, .bool true), (5, .bool true), (6, .bool true), (7, .bool false), (8, .bool false), (9, .agg (EL s).toArray), (10, .agg (EL u).toArray), (11, .bool true), (12, .bool true), (13, .bool true), (14, undef), (15, undef), (16, undef), (17, undef), (18, .bool true), (19, .bool true), (20, .bool true), (21, .bool true), (22, .bool true), (23, .bool true)]) (by kernel_rfl) ((Below.refl _ _).drew) (fun _ _ h k => S_trans h k) ?hD7u ?hk7u ?h7u
      case hD7u =>
        refine .step (some 51) rfl rfl (by kernel_rfl) (Gives.move (x := (.tmp 12)) rfl rfl) ?_
        simp only [Act.put, List.setIfInBounds_toArray, List.set_cons_zero, List.set_cons_succ]
        refine .step (some 52) rfl rfl (by kernel_rfl) (Gives.load_row 26 (.tmp 6) rfl (q) rfl 26 _ (fun w' h => hq6.belowAll h) Tryd.underlying26 rfl (el_info _)) ?_
        simp only [Act.put, List.setIfInBounds_toArray, List.set_cons_zero, List.set_cons_succ]
        refine .step (some 53) rfl rfl (by kernel_rfl) (Gives.call (args := [.agg (EL v).toArray]) rfl Tryd.func20 (by kernel_rfl) (by kernel_rfl) rfl (fun w' h => zero_is hv hzv w')) ?_
        simp only [Act.put, List.setIfInBounds_toArray, List.set_cons_zero, List.set_cons_succ]
        refine .step (some 54) rfl rfl (by kernel_rfl) (Gives.unop .not 4 (.tmp 53) rfl (.bool false) (.bool true) rfl (fun w' => rfl)) ?_
        simp only [Act.put, List.setIfInBounds_toArray, List.set_cons_zero, List.set_cons_succ]
        refine .step (some 55) rfl rfl (by kernel_rfl) (Gives.binop .eql 4 4 (.tmp 51) (.tmp 54) rfl (.bool true) (.bool true) _ rfl rfl (fun w' => grd_bool _ _ _ w') (fun w' => bool_eq _ w')) ?_
        simp only [Act.put, List.setIfInBounds_toArray, List.set_cons_zero, List.set_cons_succ]
        refine .step (some 56) rfl rfl (by kernel_rfl) (Gives.move (x := (.tmp 55)) rfl rfl) ?_
        simp only [Act.put, List.setIfInBounds_toArray, List.set_cons_zero, List.set_cons_succ]
        refine .step (some 57) rfl rfl (by kernel_rfl) (Gives.move (x := (.tmp 12)) rfl rfl) ?_
        simp only [Act.put, List.setIfInBounds_toArray, List.set_cons_zero, List.set_cons_succ]
        refine .step (some 58) rfl rfl (by kernel_rfl) (Gives.unop .not 4 (.tmp 57) rfl (.bool true) (.bool false) rfl (fun w' => rfl)) ?_
        simp only [Act.put, List.setIfInBounds_toArray, List.set_cons_zero, List.set_cons_succ]
        refine .step (some 59) rfl rfl (by kernel_rfl) (Gives.move (x := (.tmp 58)) rfl rfl) ?_
        simp only [Act.put, List.setIfInBounds_toArray, List.set_cons_zero, List.set_cons_succ]
        refine .step (some 60) rfl rfl (by kernel_rfl) (Gives.load_row 26 (.tmp 11) rfl (g11) rfl 26 _ (fun w' h => h116.belowAll h) Tryd.underlying26 rfl (el_info _)) ?_
        simp only [Act.put, List.setIfInBounds_toArray, List.set_cons_zero, List.set_cons_succ]
        refine .step (some 61) rfl rfl (by kernel_rfl) (Gives.load_row 26 (.tmp 5) rfl (p) rfl 26 _ (fun w' h => hp6.belowAll h) Tryd.underlying26 rfl (el_info _)) ?_
        simp only [Act.put, List.setIfInBounds_toArray, List.set_cons_zero, List.set_cons_succ]
        refine .step (some 62) rfl rfl (by kernel_rfl) (Gives.call (args := [.agg (EL s).toArray, .agg (EL u).toArray]) rfl Tryd.func21 (by kernel_rfl) (by kernel_rfl) rfl (fun w' h => same_is hs hu hsu w')) ?_
        simp only [Act.put, List.setIfInBounds_toArray, List.set_cons_zero, List.set_cons_succ]
        refine .step (some 63) rfl rfl (by kernel_rfl) (Gives.pick (.tmp 59) (.const (.bool true)) (.tmp 62) rfl false (.bool true) rfl rfl) ?_
        simp only [Act.put, List.setIfInBounds_toArray, List.set_cons_zero, List.set_cons_succ]
        refine .step (some 64) rfl rfl (by kernel_rfl) (Gives.move (x := (.tmp 63)) rfl rfl) ?_
        simp only [Act.put, List.setIfInBounds_toArray, List.set_cons_zero, List.set_cons_succ]
        refine .stepSkip (some 65) rfl rfl (by kernel_rfl) ?_
        simp only [Act.put, List.setIfInBounds_toArray, List.set_cons_zero, List.set_cons_succ]
        refine .stepSkip (some 66) rfl rfl (by kernel_rfl) ?_
        simp only [Act.put, List.setIfInBounds_toArray, List.set_cons_zero, List.set_cons_succ]
        refine .stepSkip (some 67) rfl rfl (by kernel_rfl) ?_
        simp only [Act.put, List.setIfInBounds_toArray, List.set_cons_zero, List.set_cons_succ]
        refine .stepSkip (some 68) rfl rfl (by kernel_rfl) ?_
        simp only [Act.put, List.setIfInBounds_toArray, List.set_cons_zero, List.set_cons_succ]
        refine .step (some 69) rfl rfl (by kernel_rfl) (Gives.pick (.tmp 64) (.const (.bool true)) (.tmp 68) rfl true (.bool true) rfl rfl) ?_
        simp only [Act.put, List.setIfInBounds_toArray, List.set_cons_zero, List.set_cons_succ]
        refine .step (some 70) rfl rfl (by kernel_rfl) (Gives.pick (.tmp 56) (.tmp 69) (.const (.bool false)) rfl true (.bool true) rfl rfl) ?_
        simp only [Act.put, List.setIfInBounds_toArray, List.set_cons_zero, List.set_cons_succ]
        refine .step (some 71) rfl rfl (by kernel_rfl) (Gives.move (x := (.tmp 70)) rfl rfl) ?_
        simp only [Act.put, List.setIfInBounds_toArray, List.set_cons_zero, List.set_cons_succ]
        refine .step (some 72) rfl rfl (by kernel_rfl) (Gives.call (args := []) rfl Tryd.func26 (by kernel_rfl) (by kernel_rfl) rfl (fun w' h => awake_any w' (hgl6.belowAll h))) ?_
        simp only [Act.put, List.setIfInBounds_toArray, List.set_cons_zero, List.set_cons_succ]
        refine .step (some 73) rfl rfl (by kernel_rfl) (Gives.pick (.tmp 71) (.tmp 72) (.const (.bool false)) rfl true (.bool true) rfl rfl) ?_
        simp only [Act.put, List.setIfInBounds_toArray, List.set_cons_zero, List.set_cons_succ]
        refine .step (some 4) rfl rfl (by kernel_rfl) (Gives.assign (x := (.tmp 73)) rfl rfl) ?_
        simp only [Act.put, List.setIfInBounds_toArray, List.set_cons_zero, List.set_cons_succ]
        exact .nil
      case hk7u => kernel_rfl
      case h7u =>
      intro W7 hb7
      go_wp2_with fail
      go_ret
      exact ⟨rfl, hw6.trans (hb7.mono hw6.size)⟩

    · have hsu : decide (nu s = nu u) = false := decide_eq_false hsu0
      have hsn : decide (nu s = nu (negL u)) = true := decide_eq_true (hsq.resolve_left hsu0)
      clear hsq hsu0
      go_wp2_with fail
      refine wp_vars_one (aD := ?aD6n) (B := W5.heap.size) (S := fun w' => Below W5.heap.size W5 w') (k1 := 10) (s1 := 11) (T1 := 26) (L1 := 26) (z1 := EL zeL) (c1 := EL s) (x1 := .tmp 11) (y1 := .tmp 49)
        (vs := [(0, .agg (EL u).toArray), (1, .agg (EL u).toArray), (2, .agg (EL (mulL u u)).toArray), (3, .agg (EL v).toArray), (4, .agg (EL (mulL (mulL u u) v)).toArray), (5, .agg (EL v).toArray), (6, .tuple #[.agg (EL s).toArray, .bool true]), (7, .tuple #[.agg (EL s).toArray, .bool true]), (8, .agg (EL s).toArray), (9, .bool true), (12, .bool true)]) (by kernel_rfl) ((Below.refl _ _).drew) (fun _ _ h k => S_trans h k) (fun _ _ _ h hg => S_row h hg _) (fun _ h => h.size) ?hD6n (.of rfl rfl rfl (fun w' => el_alloc w')) ?hk6n rfl rfl (some 11) rfl rfl rfl ?e6n ?f6n (el_info _) (EL_sz _ _) (EL_one _) ?h6n
      case hD6n =>
        refine .step (some 42) rfl rfl (by kernel_rfl) (Gives.load_row 26 (.tmp 5) rfl (p) rfl 26 _ (fun w' h => hp5.belowAll h) Tryd.underlying26 rfl (el_info _)) ?_
        simp only [Act.put, List.setIfInBounds_toArray, List.set_cons_zero, List.set_cons_succ]
        refine .step (some 43) rfl rfl (by kernel_rfl) (Gives.load_row 26 (.tmp 5) rfl (p) rfl 26 _ (fun w' h => hp5.belowAll h) Tryd.underlying26 rfl (el_info _)) ?_
        simp only [Act.put, List.setIfInBounds_toArray, List.set_cons_zero, List.set_cons_succ]
        refine .step (some 44) rfl rfl (by kernel_rfl) (Gives.call (args := [.agg (EL u).toArray, .agg (EL u).toArray]) rfl Tryd.func31 (by kernel_rfl) (by kernel_rfl) rfl (fun w' h => mul_any hu hu w')) ?_
        simp only [Act.put, List.setIfInBounds_toArray, List.set_cons_zero, List.set_cons_succ]
        refine .step (some 45) rfl rfl (by kernel_rfl) (Gives.load_row 26 (.tmp 6) rfl (q) rfl 26 _ (fun w' h => hq5.belowAll h) Tryd.underlying26 rfl (el_info _)) ?_
        simp only [Act.put, List.setIfInBounds_toArray, List.set_cons_zero, List.set_cons_succ]
        refine .step (some 46) rfl rfl (by kernel_rfl) (Gives.call (args := [.agg (EL (mulL u u)).toArray, .agg (EL v).toArray]) rfl Tryd.func31 (by kernel_rfl) (by kernel_rfl) rfl (fun w' h => mul_any (mulL_ok hu hu) hv w')) ?_
        simp only [Act.put, List.setIfInBounds_toArray, List.set_cons_zero, List.set_cons_succ]
        refine .step (some 47) rfl rfl (by kernel_rfl) (Gives.load_row 26 (.tmp 6) rfl (q) rfl 26 _ (fun w' h => hq5.belowAll h) Tryd.underlying26 rfl (el_info _)) ?_
        simp only [Act.put, List.setIfInBounds_toArray, List.set_cons_zero, List.set_cons_succ]
        refine .step (some 48) rfl rfl (by kernel_rfl) (Gives.call (args := [.agg (EL (mulL (mulL u u) v)).toArray, .agg (EL v).toArray]) rfl Tryd.func40 (by kernel_rfl) (by kernel_rfl) rfl (fun w' h => HR2.out w' (hgl5.belowAll h))) ?_
        simp only [Act.put, List.setIfInBounds_toArray, List.set_cons_zero, List.set_cons_succ]
        refine .step (some 41) rfl rfl (by kernel_rfl) (Gives.move (x := (.tmp 48)) rfl rfl) ?_
        simp only [Act.put, List.setIfInBounds_toArray, List.set_cons_zero, List.set_cons_succ]
        refine .step (some 49) rfl rfl (by kernel_rfl) (Gives.extract (.tmp 41) 0 rfl _ _ rfl (fun w' => el_ext0 _ _ w')) ?_
        simp only [Act.put, List.setIfInBounds_toArray, List.set_cons_zero, List.set_cons_succ]
        refine .step (some 50) rfl rfl (by kernel_rfl) (Gives.extract (.tmp 41) 1 rfl _ _ rfl (fun w' => el_ext1 _ _ w')) ?_
        simp only [Act.put, List.setIfInBounds_toArray, List.set_cons_zero, List.set_cons_succ]
        refine .step (some 12) rfl rfl (by kernel_rfl) (Gives.assign (x := (.tmp 50)) rfl rfl) ?_
        simp only [Act.put, List.setIfInBounds_toArray, List.set_cons_zero, List.set_cons_succ]
        exact .nil
      case hk6n => kernel_rfl
      case e6n => exact fun p => rfl
      case f6n => exact fun p => rfl
      case h6n =>
      intro g11 W6 hb6 hg11 h116
      have hp6 := hp5.belowAll hb6
      have hq6 := hq5.belowAll hb6
      have hgl6 := hgl5.belowAll hb6
      have hw6 := hw5.trans (hb6.mono hw5.size)
      clear hp5 hq5 hgl5 hw5 hb6
      go_wp2_with fail
      refine wp_flat_none (aD := ?aD7n) (S := fun w' => Below W6.heap.size W6 w') (vs := [(0, .bool true), (1, .agg (EL v).toArray), (2, .bool false), (3, .bool true), (4, .bool true), (5, .bool true), (6, .bool true), (7, .bool false), (8, .bool false), (9, .agg (EL s).toArray), (10, .agg (EL u).toArray), (11, .bool false), (12, .bool false), (13, .bool false), (14, .agg (EL s).toArray), (15, .agg (EL u).toArray), (16, .agg (EL (negL u)).toArray), (17, .bool true), (18, .bool true), (19, .bool true), (20, .bool true), (21, .bool true), (22, .bool true), (23, .bool true)]) (by kernel_rfl) ((Below.refl _ _).drew) (fun _ _ h k => S_trans h k) ?hD7n ?hk7n ?h7n
      case hD7n =>
        refine .step (some 51) rfl rfl (by kernel_rfl) (Gives.move (x := (.tmp 12)) rfl rfl) ?_
        simp only [Act.put, List.setIfInBounds_toArray, List.set_cons_zero, List.set_cons_succ]
        refine .step (some 52) rfl rfl (by kernel_rfl) (Gives.load_row 26 (.tmp 6) rfl (q) rfl 26 _ (fun w' h => hq6.belowAll h) Tryd.underlying26 rfl (el_info _)) ?_
        simp only [Act.put, List.setIfInBounds_toArray, List.set_cons_zero, List.set_cons_succ]
        refine .step (some 53) rfl rfl (by kernel_rfl) (Gives.call (args := [.agg (EL v).toArray]) rfl Tryd.func20 (by kernel_rfl) (by kernel_rfl) rfl (fun w' h => zero_is hv hzv w')) ?_
        simp only [Act.put, List.setIfInBounds_toArray, List.set_cons_zero, List.set_cons_succ]
        refine .step (some 54) rfl rfl (by kernel_rfl) (Gives.unop .not 4 (.tmp 53) rfl (.bool false) (.bool true) rfl (fun w' => rfl)) ?_
        simp only [Act.put, List.setIfInBounds_toArray, List.set_cons_zero, List.set_cons_succ]
        refine .step (some 55) rfl rfl (by kernel_rfl) (Gives.binop .eql 4 4 (.tmp 51) (.tmp 54) rfl (.bool true) (.bool true) _ rfl rfl (fun w' => grd_bool _ _ _ w') (fun w' => bool_eq _ w')) ?_
        simp only [Act.put, List.setIfInBounds_toArray, List.set_cons_zero, List.set_cons_succ]
        refine .step (some 56) rfl rfl (by kernel_rfl) (Gives.move (x := (.tmp 55)) rfl rfl) ?_
        simp only [Act.put, List.setIfInBounds_toArray, List.set_cons_zero, List.set_cons_succ]
        refine .step (some 57) rfl rfl (by kernel_rfl) (Gives.move (x := (.tmp 12)) rfl rfl) ?_
        simp only [Act.put, List.setIfInBounds_toArray, List.set_cons_zero, List.set_cons_succ]
        refine .step (some 58) rfl rfl (by kernel_rfl) (Gives.unop .not 4 (.tmp 57) rfl (.bool true) (.bool false) rfl (fun w' => rfl)) ?_
        simp only [Act.put, List.setIfInBounds_toArray, List.set_cons_zero, List.set_cons_succ]
        refine .step (some 59) rfl rfl (by kernel_rfl) (Gives.move (x := (.tmp 58)) rfl rfl) ?_
        simp only [Act.put, List.setIfInBounds_toArray, List.set_cons_zero, List.set_cons_succ]
        refine .step (some 60) rfl rfl (by kernel_rfl) (Gives.load_row 26 (.tmp 11) rfl (g11) rfl 26 _ (fun w' h => h116.belowAll h) Tryd.underlying26 rfl (el_info _)) ?_
        simp only [Act.put, List.setIfInBounds_toArray, List.set_cons_zero, List.set_cons_succ]
        refine .step (some 61) rfl rfl (by kernel_rfl) (Gives.load_row 26 (.tmp 5) rfl (p) rfl 26 _ (fun w' h => hp6.belowAll h) Tryd.underlying26 rfl (el_info _)) ?_
        simp only [Act.put, List.setIfInBounds_toArray, List.set_cons_zero, List.set_cons_succ]
        refine .step (some 62) rfl rfl (by kernel_rfl) (Gives.call (args := [.agg (EL s).toArray, .agg (EL u).toArray]) rfl Tryd.func21 (by kernel_rfl) (by kernel_rfl) rfl (fun w' h => same_is hs hu hsu w')) ?_
        simp only [Act.put, List.setIfInBounds_toArray, List.set_cons_zero, List.set_cons_succ]
        refine .step (some 63) rfl rfl (by kernel_rfl) (Gives.pick (.tmp 59) (.const (.bool true)) (.tmp 62) rfl false (.bool false) rfl rfl) ?_
        simp only [Act.put, List.setIfInBounds_toArray, List.set_cons_zero, List.set_cons_succ]
        refine .step (some 64) rfl rfl (by kernel_rfl) (Gives.move (x := (.tmp 63)) rfl rfl) ?_
        simp only [Act.put, List.setIfInBounds_toArray, List.set_cons_zero, List.set_cons_succ]
        refine .step (some 65) rfl rfl (by kernel_rfl) (Gives.load_row 26 (.tmp 11) rfl (g11) rfl 26 _ (fun w' h => h116.belowAll h) Tryd.underlying26 rfl (el_info _)) ?_
        simp only [Act.put, List.setIfInBounds_toArray, List.set_cons_zero, List.set_cons_succ]
        refine .step (some 66) rfl rfl (by kernel_rfl) (Gives.load_row 26 (.tmp 5) rfl (p) rfl 26 _ (fun w' h => hp6.belowAll h) Tryd.underlying26 rfl (el_info _)) ?_
        simp only [Act.put, List.setIfInBounds_toArray, List.set_cons_zero, List.set_cons_succ]
        refine .step (some 67) rfl rfl (by kernel_rfl) (Gives.call (args := [.agg (EL u).toArray]) rfl Tryd.func33 (by kernel_rfl) (by kernel_rfl) rfl (fun w' h => neg_any hu w' (hgl6.belowAll h).en)) ?_
        simp only [Act.put, List.setIfInBounds_toArray, List.set_cons_zero, List.set_cons_succ]
        refine .step (some 68) rfl rfl (by kernel_rfl) (Gives.call (args := [.agg (EL s).toArray, .agg (EL (negL u)).toArray]) rfl Tryd.func21 (by kernel_rfl) (by kernel_rfl) rfl (fun w' h => same_is hs (negL_ok _) hsn w')) ?_
        simp only [Act.put, List.setIfInBounds_toArray, List.set_cons_zero, List.set_cons_succ]
        refine .step (some 69) rfl rfl (by kernel_rfl) (Gives.pick (.tmp 64) (.const (.bool true)) (.tmp 68) rfl false (.bool true) rfl rfl) ?_
        simp only [Act.put, List.setIfInBounds_toArray, List.set_cons_zero, List.set_cons_succ]
        refine .step (some 70) rfl rfl (by kernel_rfl) (Gives.pick (.tmp 56) (.tmp 69) (.const (.bool false)) rfl true (.bool true) rfl rfl) ?_
        simp only [Act.put, List.setIfInBounds_toArray, List.set_cons_zero, List.set_cons_succ]
        refine .step (some 71) rfl rfl (by kernel_rfl) (Gives.move (x := (.tmp 70)) rfl rfl) ?_
        simp only [Act.put, List.setIfInBounds_toArray, List.set_cons_zero, List.set_cons_succ]
        refine .step (some 72) rfl rfl (by kernel_rfl) (Gives.call (args := []) rfl Tryd.func26 (by kernel_rfl) (by kernel_rfl) rfl (fun w' h => awake_any w' (hgl6.belowAll h))) ?_
        simp only [Act.put, List.setIfInBounds_toArray, List.set_cons_zero, List.set_cons_succ]
        refine .step (some 73) rfl rfl (by kernel_rfl) (Gives.pick (.tmp 71) (.tmp 72) (.const (.bool false)) rfl true (.bool true) rfl rfl) ?_
        simp only [Act.put, List.setIfInBounds_toArray, List.set_cons_zero, List.set_cons_succ]
        refine .step (some 4) rfl rfl (by kernel_rfl) (Gives.assign (x := (.tmp 73)) rfl rfl) ?_
        simp only [Act.put, List.setIfInBounds_toArray, List.set_cons_zero, List.set_cons_succ]
        exact .nil
      case hk7n => kernel_rfl
      case h7n =>
      intro W7 hb7
      go_wp2_with fail
      go_ret
      exact ⟨rfl, hw6.trans (hb7.mono hw6.size)⟩

end Go.Proofs.YthpbipebpaeagaaDoor
