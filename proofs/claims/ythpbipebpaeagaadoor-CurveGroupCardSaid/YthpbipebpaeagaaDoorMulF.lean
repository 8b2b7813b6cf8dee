/- field's Mul. -/
import Derived.Test.YthpbipebpaeagaaDoorAdd
import Derived.Test.YthpbipebpaeagaaDoorVars
import Derived.Deep.QuietTactic
import Derived.BigQuiet
namespace Go.Proofs.YthpbipebpaeagaaDoor
set_option maxRecDepth 100000
set_option linter.unusedSimpArgs false
open Go.RowKit

theorem l5_at0 (g : Nat) (w : World) : (Instr.indexAt 24 (.pointer (some ⟨g, 0, none⟩)) (.int .i64 0)).run Tryd.prog w = .ok (.pointer (some ⟨g, 0, none⟩)) w := by kernel_rfl
theorem l5_at1 (g : Nat) (w : World) : (Instr.indexAt 24 (.pointer (some ⟨g, 0, none⟩)) (.int .i64 1)).run Tryd.prog w = .ok (.pointer (some ⟨g, 1, none⟩)) w := by kernel_rfl
theorem l5_at2 (g : Nat) (w : World) : (Instr.indexAt 24 (.pointer (some ⟨g, 0, none⟩)) (.int .i64 2)).run Tryd.prog w = .ok (.pointer (some ⟨g, 2, none⟩)) w := by kernel_rfl
theorem l5_at3 (g : Nat) (w : World) : (Instr.indexAt 24 (.pointer (some ⟨g, 0, none⟩)) (.int .i64 3)).run Tryd.prog w = .ok (.pointer (some ⟨g, 3, none⟩)) w := by kernel_rfl
theorem l5_at4 (g : Nat) (w : World) : (Instr.indexAt 24 (.pointer (some ⟨g, 0, none⟩)) (.int .i64 4)).run Tryd.prog w = .ok (.pointer (some ⟨g, 4, none⟩)) w := by kernel_rfl
theorem el_field (g : Nat) (w : World) : (Instr.fieldAt 26 (.pointer (some ⟨g, 0, none⟩)) 0).run Tryd.prog w = .ok (.pointer (some ⟨g, 0, none⟩)) w := by kernel_rfl
theorem u64_load (A : Addr) (v : Int) (w : World) (h : w.cell? A = some (.int .u64 v)) : (Instr.loadAt 23 (.pointer (some A))).run Tryd.prog w = .ok (.int .u64 v) w := by go_simp
theorem wd_build (w : World) : (Instr.build 84 #[]).run Tryd.prog w = .ok (.agg (Wd 0).toArray) w := run_build w 84 _ _ (by kernel_rfl)
theorem wd_size : (Tryd.prog.info? 84).map (·.size) = some 2 := by kernel_rfl
theorem wd_info (n : Nat) : (Tryd.prog.info? 84).map (·.size) = some (Wd n).toArray.size := wd_size.trans rfl
theorem Wd_sz (n m : Nat) : (Wd n).toArray.size = (Wd m).toArray.size := rfl
theorem Wd_one (n : Nat) : (Wd n).toArray.all (·.oneCell') = true := by rw [List.all_toArray]; rfl

theorem l5_alloc (w : World) : (Instr.alloc 24 true (.tuple #[])).run Tryd.prog w = .ok (.pointer (some ⟨w.heap.size, 0, none⟩)) (w.alloc (.cells (EL zeL).toArray 24)) := by kernel_rfl
theorem wd_alloc (w : World) : (Instr.alloc 84 true (.tuple #[])).run Tryd.prog w = .ok (.pointer (some ⟨w.heap.size, 0, none⟩)) (w.alloc (.cells (Wd 0).toArray 84)) := by kernel_rfl
theorem u64_mul (c b : Nat) (h : c * b < 18446744073709551616) (w : World) : (binOp .mul 23 (.int .u64 (c : Int)) (.int .u64 (b : Int))).run Tryd.prog w = .ok (.int .u64 ((c * b : Nat) : Int)) w := by
  have e : IntKind.u64.wrap ((c : Int) * (b : Int)) = ((c * b : Nat) : Int) := by
    rw [IntKind.wrap_u64, ← Int.natCast_mul]
    omega
  go_simp
theorem u64_add (c b : Nat) (h : c + b < 18446744073709551616) (w : World) : (binOp .add 23 (.int .u64 (c : Int)) (.int .u64 (b : Int))).run Tryd.prog w = .ok (.int .u64 ((c + b : Nat) : Int)) w := by
  have e : IntKind.u64.wrap ((c : Int) + (b : Int)) = ((c + b : Nat) : Int) := by
    rw [IntKind.wrap_u64]
    omega
  go_simp
theorem grd_mul (T : TypeId) (x y : Operand) (u v : Value) (w : World) : (eqGuard .mul T x y u v).run Tryd.prog w = .ok () w := rfl
theorem grd_add (T : TypeId) (x y : Operand) (u v : Value) (w : World) : (eqGuard .add T x y u v).run Tryd.prog w = .ok () w := rfl

theorem l5_build (a b c d e : Nat) (w : World) : (Instr.build 24 #[(0, .int .u64 (a : Int)), (1, .int .u64 (b : Int)), (2, .int .u64 (c : Int)), (3, .int .u64 (d : Int)), (4, .int .u64 (e : Int))]).run Tryd.prog w = .ok (.agg (L5 a b c d e).toArray) w := run_build w 24 _ _ (by kernel_rfl)
theorem limb_n (n : Nat) (w : World) : Calls Tryd.prog 69 #[.agg (Wd n).toArray] w fun e w' => e = .returned (.int .u64 ((n % 2251799813685248 : Nat) : Int)) ∧ Below w.heap.size w w' := by
  have h := limb_any (n / 18446744073709551616) (n % 18446744073709551616) (Nat.mod_lt _ (by decide)) w
  rw [show n % 18446744073709551616 % 2251799813685248 = n % 2251799813685248 by omega] at h
  exact h
theorem over_n (n : Nat) (hn : n < 2596148429267413814265248164610048) (w : World) : Calls Tryd.prog 70 #[.agg (Wd n).toArray] w fun e w' => e = .returned (.int .u64 ((n / 2251799813685248 : Nat) : Int)) ∧ Below w.heap.size w w' := by
  have h := over_any (n / 18446744073709551616) (n % 18446744073709551616) (Nat.mod_lt _ (by decide)) w
  rw [show n / 18446744073709551616 * 8192 % 18446744073709551616 + n % 18446744073709551616 / 2251799813685248 = n / 2251799813685248 by omega] at h
  exact h
theorem crL_list (x : Lm) : L5 (x.a % 2251799813685248 + 19 * (x.e / 2251799813685248)) (x.b % 2251799813685248 + x.a / 2251799813685248) (x.c % 2251799813685248 + x.b / 2251799813685248) (x.d % 2251799813685248 + x.c / 2251799813685248) (x.e % 2251799813685248 + x.d / 2251799813685248) = EL (crL x) := by
  rw [Nat.mul_comm 19]
  rfl

theorem pm_0 (x y : Lm) : 0 + x.a * y.a + x.b * (19 * y.e) + x.c * (19 * y.d) + x.d * (19 * y.c) + x.e * (19 * y.b) = (pMul x y).a := by simp only [pMul, Nat.zero_add]
theorem pm_1 (x y : Lm) : 0 + x.a * y.b + x.b * y.a + x.c * (19 * y.e) + x.d * (19 * y.d) + x.e * (19 * y.c) = (pMul x y).b := by simp only [pMul, Nat.zero_add]
theorem pm_2 (x y : Lm) : 0 + x.a * y.c + x.b * y.b + x.c * y.a + x.d * (19 * y.e) + x.e * (19 * y.d) = (pMul x y).c := by simp only [pMul, Nat.zero_add]
theorem pm_3 (x y : Lm) : 0 + x.a * y.d + x.b * y.c + x.c * y.b + x.d * y.a + x.e * (19 * y.e) = (pMul x y).d := by simp only [pMul, Nat.zero_add]
theorem pm_4 (x y : Lm) : 0 + x.a * y.e + x.b * y.d + x.c * y.c + x.d * y.b + x.e * y.a = (pMul x y).e := by simp only [pMul, Nat.zero_add]

set_option maxHeartbeats 6400000 in
theorem mul_any {x y : Lm} (hx : x.ok) (hy : y.ok) (w : World) :
    Calls Tryd.prog 31 #[.agg (EL x).toArray, .agg (EL y).toArray] w fun e w' => e = .returned (.agg (EL (mulL x y)).toArray) ∧ Below w.heap.size w w' := by
  have hprod := pMul_prod hx hy
  have hcr := carry_lm (crL_wide hprod)
  unfold mulL
  have hp0 := hprod.a
  rw [← pm_0] at hp0
  have hp1 := hprod.b
  rw [← pm_1] at hp1
  have hp2 := hprod.c
  rw [← pm_2] at hp2
  have hp3 := hprod.d
  rw [← pm_3] at hp3
  have hp4 := hprod.e
  rw [← pm_4] at hp4
  have lxa := hx.a
  have lxb := hx.b
  have lxc := hx.c
  have lxd := hx.d
  have lxe := hx.e
  have lya := hy.a
  have lyb := hy.b
  have lyc := hy.c
  have lyd := hy.d
  have lye := hy.e
  have hr3 := Row.new2 w (.cells (EL x).toArray 26) (.cells (EL y).toArray 26) (EL zeL) 26
  have hr1 := ((Row.new w (EL x) 26).alloc (.cells (EL y).toArray 26)).alloc (.cells (EL zeL).toArray 26)
  have hr2 := (Row.new1 w (.cells (EL x).toArray 26) (EL y) 26).alloc (.cells (EL zeL).toArray 26)
  have hb0 := Below.alloc3 w (.cells (EL x).toArray 26) (.cells (EL y).toArray 26) (.cells (EL zeL).toArray 26)
  have HPROD := Lib.hid hprod
  have HCR := Lib.hid hcr
  have HR1 := Lib.hid hr1
  have HR2 := Lib.hid hr2
  have HR3 := Lib.hid hr3
  have HB0 := Lib.hid hb0
  clear hprod hcr hr1 hr2 hr3 hb0
  go_enter Tryd.func31, Tryd.ntmps31
  go_wp2_with fail
  rw [show (#[Value.int .u64 0, .int .u64 0, .int .u64 0, .int .u64 0, .int .u64 0] : Array Value) = (EL zeL).toArray from rfl]
  have hsz0 : (((w.alloc (.cells (EL x).toArray 26)).alloc (.cells (EL y).toArray 26)).alloc (.cells (EL zeL).toArray 26)).heap.size = w.heap.size + 1 + 1 + 1 := by simp
  generalize ((w.alloc (.cells (EL x).toArray 26)).alloc (.cells (EL y).toArray 26)).alloc (.cells (EL zeL).toArray 26) = W0 at *
  refine wp_vars_two (aD := ?aD1) (B := W0.heap.size) (S := fun w' => Below W0.heap.size W0 w') (k1 := 4) (k2 := 5) (s1 := 6) (s2 := 7) (T1 := 24) (T2 := 24) (z1 := EL zeL) (z2 := EL zeL) (c1 := EL x) (c2 := EL y) (x1 := .tmp 5) (y1 := .tmp 17) (x2 := .tmp 6) (y2 := .tmp 19)
    (vs := [(0, .pointer (some ⟨w.heap.size, 0, none⟩)), (1, .agg (EL x).toArray), (2, .pointer (some ⟨w.heap.size + 1, 0, none⟩)), (3, .agg (EL y).toArray)]) (by kernel_rfl) ((Below.refl _ _).drew) (fun _ _ h k => S_trans h k) (fun _ _ cs h hg => S_row h hg cs) (fun _ h => h.size) ?hD1 (.of rfl rfl rfl (fun w' => l5_alloc w')) (.of rfl rfl rfl (fun w' => l5_alloc w')) ?hk1 (by decide) rfl rfl rfl rfl (some 5) (some 6) rfl rfl rfl rfl rfl rfl ?e1 ?e2 ?e3 ?e4 (l5_info _) (EL_sz _ _) (EL_one _) (l5_info _) (EL_sz _ _) (EL_one _) ?h1
  case hD1 =>
    refine .step (some 16) rfl rfl (by kernel_rfl) (Gives.fieldAt 26 (.tmp 2) 0 rfl (.pointer (some ⟨w.heap.size, 0, none⟩)) (.pointer (some ⟨w.heap.size, 0, none⟩)) rfl (fun w' => el_field _ w')) ?_
    simp only [Act.put, List.setIfInBounds_toArray, List.set_cons_zero, List.set_cons_succ]
    refine .step (some 17) rfl rfl (by kernel_rfl) (Gives.load_row 24 (.tmp 16) rfl (w.heap.size) rfl 26 _ (fun w' h => HR1.out.belowAll h) Tryd.underlying24 rfl (l5_info _)) ?_
    simp only [Act.put, List.setIfInBounds_toArray, List.set_cons_zero, List.set_cons_succ]
    refine .step (some 18) rfl rfl (by kernel_rfl) (Gives.fieldAt 26 (.tmp 3) 0 rfl (.pointer (some ⟨w.heap.size + 1, 0, none⟩)) (.pointer (some ⟨w.heap.size + 1, 0, none⟩)) rfl (fun w' => el_field _ w')) ?_
    simp only [Act.put, List.setIfInBounds_toArray, List.set_cons_zero, List.set_cons_succ]
    refine .step (some 19) rfl rfl (by kernel_rfl) (Gives.load_row 24 (.tmp 18) rfl (w.heap.size + 1) rfl 26 _ (fun w' h => HR2.out.belowAll h) Tryd.underlying24 rfl (l5_info _)) ?_
    simp only [Act.put, List.setIfInBounds_toArray, List.set_cons_zero, List.set_cons_succ]
    exact .nil
  case hk1 => kernel_rfl
  case e1 => intro p q; rfl
  case e2 => intro p q; rfl
  case e3 => intro p q; rfl
  case e4 => intro p q; rfl
  case h1 =>
  intro p q W1 hb1 hgp hgq hpq hp hq
  simp only [Act.put, List.setIfInBounds_toArray, List.set_cons_zero, List.set_cons_succ]
  have hr3 := HR3.out.belowAll hb1
  have hbw := HB0.out.trans (hb1.mono HB0.out.size)
  have hs3 : w.heap.size + 1 + 1 < W0.heap.size := by omega
  have hs4 := hb1.size
  have HR := Lib.hid hr3
  have HBW := Lib.hid hbw
  clear hb1 hr3 hbw
  go_wp2_with fail
  refine wp_flat_none (aD := ?aD2) (S := fun w' => Below W1.heap.size W1 w') (vs := [(0, .pointer (some ⟨q, 1, none⟩)), (1, .int .u64 ((y.b : Nat) : Int)), (2, .int .u64 ((19 * y.b : Nat) : Int)), (3, .pointer (some ⟨q, 2, none⟩)), (4, .int .u64 ((y.c : Nat) : Int)), (5, .int .u64 ((19 * y.c : Nat) : Int)), (6, .pointer (some ⟨q, 3, none⟩)), (7, .int .u64 ((y.d : Nat) : Int)), (8, .int .u64 ((19 * y.d : Nat) : Int)), (9, .pointer (some ⟨q, 4, none⟩)), (10, .int .u64 ((y.e : Nat) : Int)), (11, .int .u64 ((19 * y.e : Nat) : Int)), (12, .int .u64 ((19 * y.b : Nat) : Int)), (13, .int .u64 ((19 * y.c : Nat) : Int)), (14, .int .u64 ((19 * y.d : Nat) : Int)), (15, .int .u64 ((19 * y.e : Nat) : Int))]) (by kernel_rfl) ((Below.refl _ _).drew) (fun _ _ h k => S_trans h k) ?hD2 ?hk2 ?h2
  case hD2 =>
    refine .step (some 20) rfl rfl (by kernel_rfl) (Gives.indexAt 24 (.tmp 6) (.const (.int .i64 1)) rfl (.pointer (some ⟨q, 0, none⟩)) (.int .i64 1) _ rfl rfl (fun w' => l5_at1 _ w')) ?_
    simp only [Act.put, List.setIfInBounds_toArray, List.set_cons_zero, List.set_cons_succ]
    refine .step (some 21) rfl rfl (by kernel_rfl) (Gives.load 23 (.tmp 20) rfl (.pointer (some ⟨q, 1, none⟩)) _ rfl (fun w' h => u64_load _ _ w' ((hq.belowAll h).cell (k := 1) rfl))) ?_
    simp only [Act.put, List.setIfInBounds_toArray, List.set_cons_zero, List.set_cons_succ]
    refine .step (some 22) rfl rfl (by kernel_rfl) (Gives.binop .mul 23 23 (.const (.int .u64 19)) (.tmp 21) rfl (.int .u64 ((19 : Nat) : Int)) (.int .u64 ((y.b : Nat) : Int)) _ rfl rfl (fun w' => grd_mul _ _ _ _ _ w') (fun w' => u64_mul 19 y.b (by omega) w')) ?_
    simp only [Act.put, List.setIfInBounds_toArray, List.set_cons_zero, List.set_cons_succ]
    refine .step (some 23) rfl rfl (by kernel_rfl) (Gives.indexAt 24 (.tmp 6) (.const (.int .i64 2)) rfl (.pointer (some ⟨q, 0, none⟩)) (.int .i64 2) _ rfl rfl (fun w' => l5_at2 _ w')) ?_
    simp only [Act.put, List.setIfInBounds_toArray, List.set_cons_zero, List.set_cons_succ]
    refine .step (some 24) rfl rfl (by kernel_rfl) (Gives.load 23 (.tmp 23) rfl (.pointer (some ⟨q, 2, none⟩)) _ rfl (fun w' h => u64_load _ _ w' ((hq.belowAll h).cell (k := 2) rfl))) ?_
    simp only [Act.put, List.setIfInBounds_toArray, List.set_cons_zero, List.set_cons_succ]
    refine .step (some 25) rfl rfl (by kernel_rfl) (Gives.binop .mul 23 23 (.const (.int .u64 19)) (.tmp 24) rfl (.int .u64 ((19 : Nat) : Int)) (.int .u64 ((y.c : Nat) : Int)) _ rfl rfl (fun w' => grd_mul _ _ _ _ _ w') (fun w' => u64_mul 19 y.c (by omega) w')) ?_
    simp only [Act.put, List.setIfInBounds_toArray, List.set_cons_zero, List.set_cons_succ]
    refine .step (some 26) rfl rfl (by kernel_rfl) (Gives.indexAt 24 (.tmp 6) (.const (.int .i64 3)) rfl (.pointer (some ⟨q, 0, none⟩)) (.int .i64 3) _ rfl rfl (fun w' => l5_at3 _ w')) ?_
    simp only [Act.put, List.setIfInBounds_toArray, List.set_cons_zero, List.set_cons_succ]
    refine .step (some 27) rfl rfl (by kernel_rfl) (Gives.load 23 (.tmp 26) rfl (.pointer (some ⟨q, 3, none⟩)) _ rfl (fun w' h => u64_load _ _ w' ((hq.belowAll h).cell (k := 3) rfl))) ?_
    simp only [Act.put, List.setIfInBounds_toArray, List.set_cons_zero, List.set_cons_succ]
    refine .step (some 28) rfl rfl (by kernel_rfl) (Gives.binop .mul 23 23 (.const (.int .u64 19)) (.tmp 27) rfl (.int .u64 ((19 : Nat) : Int)) (.int .u64 ((y.d : Nat) : Int)) _ rfl rfl (fun w' => grd_mul _ _ _ _ _ w') (fun w' => u64_mul 19 y.d (by omega) w')) ?_
    simp only [Act.put, List.setIfInBounds_toArray, List.set_cons_zero, List.set_cons_succ]
    refine .step (some 29) rfl rfl (by kernel_rfl) (Gives.indexAt 24 (.tmp 6) (.const (.int .i64 4)) rfl (.pointer (some ⟨q, 0, none⟩)) (.int .i64 4) _ rfl rfl (fun w' => l5_at4 _ w')) ?_
    simp only [Act.put, List.setIfInBounds_toArray, List.set_cons_zero, List.set_cons_succ]
    refine .step (some 30) rfl rfl (by kernel_rfl) (Gives.load 23 (.tmp 29) rfl (.pointer (some ⟨q, 4, none⟩)) _ rfl (fun w' h => u64_load _ _ w' ((hq.belowAll h).cell (k := 4) rfl))) ?_
    simp only [Act.put, List.setIfInBounds_toArray, List.set_cons_zero, List.set_cons_succ]
    refine .step (some 31) rfl rfl (by kernel_rfl) (Gives.binop .mul 23 23 (.const (.int .u64 19)) (.tmp 30) rfl (.int .u64 ((19 : Nat) : Int)) (.int .u64 ((y.e : Nat) : Int)) _ rfl rfl (fun w' => grd_mul _ _ _ _ _ w') (fun w' => u64_mul 19 y.e (by omega) w')) ?_
    simp only [Act.put, List.setIfInBounds_toArray, List.set_cons_zero, List.set_cons_succ]
    refine .step (some 7) rfl rfl (by kernel_rfl) (Gives.assign (x := (.tmp 22)) rfl rfl) ?_
    simp only [Act.put, List.setIfInBounds_toArray, List.set_cons_zero, List.set_cons_succ]
    refine .step (some 8) rfl rfl (by kernel_rfl) (Gives.assign (x := (.tmp 25)) rfl rfl) ?_
    simp only [Act.put, List.setIfInBounds_toArray, List.set_cons_zero, List.set_cons_succ]
    refine .step (some 9) rfl rfl (by kernel_rfl) (Gives.assign (x := (.tmp 28)) rfl rfl) ?_
    simp only [Act.put, List.setIfInBounds_toArray, List.set_cons_zero, List.set_cons_succ]
    refine .step (some 10) rfl rfl (by kernel_rfl) (Gives.assign (x := (.tmp 31)) rfl rfl) ?_
    simp only [Act.put, List.setIfInBounds_toArray, List.set_cons_zero, List.set_cons_succ]
    exact .nil
  case hk2 => kernel_rfl
  case h2 =>
  intro W2 hb2
  have hp2 := hp.belowAll hb2
  have hq2 := hq.belowAll hb2
  have HR_2 := Lib.hid (HR.out.belowAll hb2)
  have HBW_2 := Lib.hid (HBW.out.trans (hb2.mono HBW.out.size))
  have hs5 := hb2.size
  clear hp hq HR HBW hb2
  have hp := hp2
  have hq := hq2
  clear hp2 hq2
  go_wp2_with fail
  refine wp_flat_new_store (aD := ?aD10) (B := W2.heap.size) (S := fun w' => Below W2.heap.size W2 w') (k := 22) (s := 23) (T := 84) (z := Wd 0) (c := Wd (0 + x.a * y.a + x.b * (19 * y.e) + x.c * (19 * y.d) + x.d * (19 * y.c) + x.e * (19 * y.b))) (x := .tmp 11) (y := .tmp 53)
    (vs := [(0, .agg (Wd 0).toArray), (1, .pointer (some ⟨p, 0, none⟩)), (2, .int .u64 ((x.a : Nat) : Int)), (3, .pointer (some ⟨q, 0, none⟩)), (4, .int .u64 ((y.a : Nat) : Int)), (5, .agg (Wd (0 + x.a * y.a)).toArray), (6, .pointer (some ⟨p, 1, none⟩)), (7, .int .u64 ((x.b : Nat) : Int)), (8, .int .u64 ((19 * y.e : Nat) : Int)), (9, .agg (Wd (0 + x.a * y.a + x.b * (19 * y.e))).toArray), (10, .pointer (some ⟨p, 2, none⟩)), (11, .int .u64 ((x.c : Nat) : Int)), (12, .int .u64 ((19 * y.d : Nat) : Int)), (13, .agg (Wd (0 + x.a * y.a + x.b * (19 * y.e) + x.c * (19 * y.d))).toArray), (14, .pointer (some ⟨p, 3, none⟩)), (15, .int .u64 ((x.d : Nat) : Int)), (16, .int .u64 ((19 * y.c : Nat) : Int)), (17, .agg (Wd (0 + x.a * y.a + x.b * (19 * y.e) + x.c * (19 * y.d) + x.d * (19 * y.c))).toArray), (18, .pointer (some ⟨p, 4, none⟩)), (19, .int .u64 ((x.e : Nat) : Int)), (20, .int .u64 ((19 * y.b : Nat) : Int)), (21, .agg (Wd (0 + x.a * y.a + x.b * (19 * y.e) + x.c * (19 * y.d) + x.d * (19 * y.c) + x.e * (19 * y.b))).toArray)]) (by kernel_rfl) ((Below.refl _ _).drew) (fun _ _ h k => S_trans h k) (fun _ _ cs h hg => S_row h hg cs) (fun _ h => h.size) ?hD10 (.of rfl rfl rfl (fun w' => wd_alloc w')) ?hk10 rfl rfl (some 11) rfl rfl rfl ?e5 ?e6 (wd_info _) (Wd_sz _ _) (Wd_one _) ?h10
  case hD10 =>
    refine .step (some 32) rfl rfl (by kernel_rfl) (Gives.build0 84 rfl _ (fun w' => wd_build w')) ?_
    simp only [Act.put, List.setIfInBounds_toArray, List.set_cons_zero, List.set_cons_succ]
    refine .step (some 33) rfl rfl (by kernel_rfl) (Gives.indexAt 24 (.tmp 5) (.const (.int .i64 0)) rfl (.pointer (some ⟨p, 0, none⟩)) (.int .i64 0) _ rfl rfl (fun w' => l5_at0 _ w')) ?_
    simp only [Act.put, List.setIfInBounds_toArray, List.set_cons_zero, List.set_cons_succ]
    refine .step (some 34) rfl rfl (by kernel_rfl) (Gives.load 23 (.tmp 33) rfl (.pointer (some ⟨p, 0, none⟩)) _ rfl (fun w' h => u64_load _ _ w' ((hp.belowAll h).cell (k := 0) rfl))) ?_
    simp only [Act.put, List.setIfInBounds_toArray, List.set_cons_zero, List.set_cons_succ]
    refine .step (some 35) rfl rfl (by kernel_rfl) (Gives.indexAt 24 (.tmp 6) (.const (.int .i64 0)) rfl (.pointer (some ⟨q, 0, none⟩)) (.int .i64 0) _ rfl rfl (fun w' => l5_at0 _ w')) ?_
    simp only [Act.put, List.setIfInBounds_toArray, List.set_cons_zero, List.set_cons_succ]
    refine .step (some 36) rfl rfl (by kernel_rfl) (Gives.load 23 (.tmp 35) rfl (.pointer (some ⟨q, 0, none⟩)) _ rfl (fun w' h => u64_load _ _ w' ((hq.belowAll h).cell (k := 0) rfl))) ?_
    simp only [Act.put, List.setIfInBounds_toArray, List.set_cons_zero, List.set_cons_succ]
    refine .step (some 37) rfl rfl (by kernel_rfl) (Gives.call (args := [.agg (Wd 0).toArray, .int .u64 ((x.a : Nat) : Int), .int .u64 ((y.a : Nat) : Int)]) rfl Tryd.func68 (by kernel_rfl) (by kernel_rfl) rfl (fun w' h => plus_any (0) (x.a) (y.a) (by omega) (by omega) (by omega) w')) ?_
    simp only [Act.put, List.setIfInBounds_toArray, List.set_cons_zero, List.set_cons_succ]
    refine .step (some 38) rfl rfl (by kernel_rfl) (Gives.indexAt 24 (.tmp 5) (.const (.int .i64 1)) rfl (.pointer (some ⟨p, 0, none⟩)) (.int .i64 1) _ rfl rfl (fun w' => l5_at1 _ w')) ?_
    simp only [Act.put, List.setIfInBounds_toArray, List.set_cons_zero, List.set_cons_succ]
    refine .step (some 39) rfl rfl (by kernel_rfl) (Gives.load 23 (.tmp 38) rfl (.pointer (some ⟨p, 1, none⟩)) _ rfl (fun w' h => u64_load _ _ w' ((hp.belowAll h).cell (k := 1) rfl))) ?_
    simp only [Act.put, List.setIfInBounds_toArray, List.set_cons_zero, List.set_cons_succ]
    refine .step (some 40) rfl rfl (by kernel_rfl) (Gives.move (x := (.tmp 10)) rfl rfl) ?_
    simp only [Act.put, List.setIfInBounds_toArray, List.set_cons_zero, List.set_cons_succ]
    refine .step (some 41) rfl rfl (by kernel_rfl) (Gives.call (args := [.agg (Wd (0 + x.a * y.a)).toArray, .int .u64 ((x.b : Nat) : Int), .int .u64 ((19 * y.e : Nat) : Int)]) rfl Tryd.func68 (by kernel_rfl) (by kernel_rfl) rfl (fun w' h => plus_any (0 + x.a * y.a) (x.b) ((19 * y.e)) (by omega) (by omega) (by omega) w')) ?_
    simp only [Act.put, List.setIfInBounds_toArray, List.set_cons_zero, List.set_cons_succ]
    refine .step (some 42) rfl rfl (by kernel_rfl) (Gives.indexAt 24 (.tmp 5) (.const (.int .i64 2)) rfl (.pointer (some ⟨p, 0, none⟩)) (.int .i64 2) _ rfl rfl (fun w' => l5_at2 _ w')) ?_
    simp only [Act.put, List.setIfInBounds_toArray, List.set_cons_zero, List.set_cons_succ]
    refine .step (some 43) rfl rfl (by kernel_rfl) (Gives.load 23 (.tmp 42) rfl (.pointer (some ⟨p, 2, none⟩)) _ rfl (fun w' h => u64_load _ _ w' ((hp.belowAll h).cell (k := 2) rfl))) ?_
    simp only [Act.put, List.setIfInBounds_toArray, List.set_cons_zero, List.set_cons_succ]
    refine .step (some 44) rfl rfl (by kernel_rfl) (Gives.move (x := (.tmp 9)) rfl rfl) ?_
    simp only [Act.put, List.setIfInBounds_toArray, List.set_cons_zero, List.set_cons_succ]
    refine .step (some 45) rfl rfl (by kernel_rfl) (Gives.call (args := [.agg (Wd (0 + x.a * y.a + x.b * (19 * y.e))).toArray, .int .u64 ((x.c : Nat) : Int), .int .u64 ((19 * y.d : Nat) : Int)]) rfl Tryd.func68 (by kernel_rfl) (by kernel_rfl) rfl (fun w' h => plus_any (0 + x.a * y.a + x.b * (19 * y.e)) (x.c) ((19 * y.d)) (by omega) (by omega) (by omega) w')) ?_
    simp only [Act.put, List.setIfInBounds_toArray, List.set_cons_zero, List.set_cons_succ]
    refine .step (some 46) rfl rfl (by kernel_rfl) (Gives.indexAt 24 (.tmp 5) (.const (.int .i64 3)) rfl (.pointer (some ⟨p, 0, none⟩)) (.int .i64 3) _ rfl rfl (fun w' => l5_at3 _ w')) ?_
    simp only [Act.put, List.setIfInBounds_toArray, List.set_cons_zero, List.set_cons_succ]
    refine .step (some 47) rfl rfl (by kernel_rfl) (Gives.load 23 (.tmp 46) rfl (.pointer (some ⟨p, 3, none⟩)) _ rfl (fun w' h => u64_load _ _ w' ((hp.belowAll h).cell (k := 3) rfl))) ?_
    simp only [Act.put, List.setIfInBounds_toArray, List.set_cons_zero, List.set_cons_succ]
    refine .step (some 48) rfl rfl (by kernel_rfl) (Gives.move (x := (.tmp 8)) rfl rfl) ?_
    simp only [Act.put, List.setIfInBounds_toArray, List.set_cons_zero, List.set_cons_succ]
    refine .step (some 49) rfl rfl (by kernel_rfl) (Gives.call (args := [.agg (Wd (0 + x.a * y.a + x.b * (19 * y.e) + x.c * (19 * y.d))).toArray, .int .u64 ((x.d : Nat) : Int), .int .u64 ((19 * y.c : Nat) : Int)]) rfl Tryd.func68 (by kernel_rfl) (by kernel_rfl) rfl (fun w' h => plus_any (0 + x.a * y.a + x.b * (19 * y.e) + x.c * (19 * y.d)) (x.d) ((19 * y.c)) (by omega) (by omega) (by omega) w')) ?_
    simp only [Act.put, List.setIfInBounds_toArray, List.set_cons_zero, List.set_cons_succ]
    refine .step (some 50) rfl rfl (by kernel_rfl) (Gives.indexAt 24 (.tmp 5) (.const (.int .i64 4)) rfl (.pointer (some ⟨p, 0, none⟩)) (.int .i64 4) _ rfl rfl (fun w' => l5_at4 _ w')) ?_
    simp only [Act.put, List.setIfInBounds_toArray, List.set_cons_zero, List.set_cons_succ]
    refine .step (some 51) rfl rfl (by kernel_rfl) (Gives.load 23 (.tmp 50) rfl (.pointer (some ⟨p, 4, none⟩)) _ rfl (fun w' h => u64_load _ _ w' ((hp.belowAll h).cell (k := 4) rfl))) ?_
    simp only [Act.put, List.setIfInBounds_toArray, List.set_cons_zero, List.set_cons_succ]
    refine .step (some 52) rfl rfl (by kernel_rfl) (Gives.move (x := (.tmp 7)) rfl rfl) ?_
    simp only [Act.put, List.setIfInBounds_toArray, List.set_cons_zero, List.set_cons_succ]
    refine .step (some 53) rfl rfl (by kernel_rfl) (Gives.call (args := [.agg (Wd (0 + x.a * y.a + x.b * (19 * y.e) + x.c * (19 * y.d) + x.d * (19 * y.c))).toArray, .int .u64 ((x.e : Nat) : Int), .int .u64 ((19 * y.b : Nat) : Int)]) rfl Tryd.func68 (by kernel_rfl) (by kernel_rfl) rfl (fun w' h => plus_any (0 + x.a * y.a + x.b * (19 * y.e) + x.c * (19 * y.d) + x.d * (19 * y.c)) (x.e) ((19 * y.b)) (by omega) (by omega) (by omega) w')) ?_
    simp only [Act.put, List.setIfInBounds_toArray, List.set_cons_zero, List.set_cons_succ]
    exact .nil
  case hk10 => kernel_rfl
  case e5 => intro g; rfl
  case e6 => intro g; rfl
  case h10 =>
  intro g0 W3 hb hge hg0
  simp only [Act.put, List.setIfInBounds_toArray, List.set_cons_zero, List.set_cons_succ]
  have hp' := hp.belowAll hb
  have hq' := hq.belowAll hb
  have HR10 := Lib.hid (HR_2.out.belowAll hb)
  have HBW10 := Lib.hid (HBW_2.out.trans (hb.mono HBW_2.out.size))
  rw [pm_0] at hg0
  have hs10_ := hb.size
  clear hp hq HR_2 HBW_2 hb hge
  have hp := hp'
  have hq := hq'
  clear hp' hq'
  go_wp2_with fail
  refine wp_flat_new_store (aD := ?aD11) (B := W3.heap.size) (S := fun w' => Below W3.heap.size W3 w') (k := 23) (s := 24) (T := 84) (z := Wd 0) (c := Wd (0 + x.a * y.b + x.b * y.a + x.c * (19 * y.e) + x.d * (19 * y.d) + x.e * (19 * y.c))) (x := .tmp 12) (y := .tmp 76)
    (vs := [(0, .agg (Wd 0).toArray), (1, .pointer (some ⟨p, 0, none⟩)), (2, .int .u64 ((x.a : Nat) : Int)), (3, .pointer (some ⟨q, 1, none⟩)), (4, .int .u64 ((y.b : Nat) : Int)), (5, .agg (Wd (0 + x.a * y.b)).toArray), (6, .pointer (some ⟨p, 1, none⟩)), (7, .int .u64 ((x.b : Nat) : Int)), (8, .pointer (some ⟨q, 0, none⟩)), (9, .int .u64 ((y.a : Nat) : Int)), (10, .agg (Wd (0 + x.a * y.b + x.b * y.a)).toArray), (11, .pointer (some ⟨p, 2, none⟩)), (12, .int .u64 ((x.c : Nat) : Int)), (13, .int .u64 ((19 * y.e : Nat) : Int)), (14, .agg (Wd (0 + x.a * y.b + x.b * y.a + x.c * (19 * y.e))).toArray), (15, .pointer (some ⟨p, 3, none⟩)), (16, .int .u64 ((x.d : Nat) : Int)), (17, .int .u64 ((19 * y.d : Nat) : Int)), (18, .agg (Wd (0 + x.a * y.b + x.b * y.a + x.c * (19 * y.e) + x.d * (19 * y.d))).toArray), (19, .pointer (some ⟨p, 4, none⟩)), (20, .int .u64 ((x.e : Nat) : Int)), (21, .int .u64 ((19 * y.c : Nat) : Int)), (22, .agg (Wd (0 + x.a * y.b + x.b * y.a + x.c * (19 * y.e) + x.d * (19 * y.d) + x.e * (19 * y.c))).toArray)]) (by kernel_rfl) ((Below.refl _ _).drew) (fun _ _ h k => S_trans h k) (fun _ _ cs h hg => S_row h hg cs) (fun _ h => h.size) ?hD11 (.of rfl rfl rfl (fun w' => wd_alloc w')) ?hk11 rfl rfl (some 12) rfl rfl rfl ?e5 ?e6 (wd_info _) (Wd_sz _ _) (Wd_one _) ?h11
  case hD11 =>
    refine .step (some 54) rfl rfl (by kernel_rfl) (Gives.build0 84 rfl _ (fun w' => wd_build w')) ?_
    simp only [Act.put, List.setIfInBounds_toArray, List.set_cons_zero, List.set_cons_succ]
    refine .step (some 55) rfl rfl (by kernel_rfl) (Gives.indexAt 24 (.tmp 5) (.const (.int .i64 0)) rfl (.pointer (some ⟨p, 0, none⟩)) (.int .i64 0) _ rfl rfl (fun w' => l5_at0 _ w')) ?_
    simp only [Act.put, List.setIfInBounds_toArray, List.set_cons_zero, List.set_cons_succ]
    refine .step (some 56) rfl rfl (by kernel_rfl) (Gives.load 23 (.tmp 55) rfl (.pointer (some ⟨p, 0, none⟩)) _ rfl (fun w' h => u64_load _ _ w' ((hp.belowAll h).cell (k := 0) rfl))) ?_
    simp only [Act.put, List.setIfInBounds_toArray, List.set_cons_zero, List.set_cons_succ]
    refine .step (some 57) rfl rfl (by kernel_rfl) (Gives.indexAt 24 (.tmp 6) (.const (.int .i64 1)) rfl (.pointer (some ⟨q, 0, none⟩)) (.int .i64 1) _ rfl rfl (fun w' => l5_at1 _ w')) ?_
    simp only [Act.put, List.setIfInBounds_toArray, List.set_cons_zero, List.set_cons_succ]
    refine .step (some 58) rfl rfl (by kernel_rfl) (Gives.load 23 (.tmp 57) rfl (.pointer (some ⟨q, 1, none⟩)) _ rfl (fun w' h => u64_load _ _ w' ((hq.belowAll h).cell (k := 1) rfl))) ?_
    simp only [Act.put, List.setIfInBounds_toArray, List.set_cons_zero, List.set_cons_succ]
    refine .step (some 59) rfl rfl (by kernel_rfl) (Gives.call (args := [.agg (Wd 0).toArray, .int .u64 ((x.a : Nat) : Int), .int .u64 ((y.b : Nat) : Int)]) rfl Tryd.func68 (by kernel_rfl) (by kernel_rfl) rfl (fun w' h => plus_any (0) (x.a) (y.b) (by omega) (by omega) (by omega) w')) ?_
    simp only [Act.put, List.setIfInBounds_toArray, List.set_cons_zero, List.set_cons_succ]
    refine .step (some 60) rfl rfl (by kernel_rfl) (Gives.indexAt 24 (.tmp 5) (.const (.int .i64 1)) rfl (.pointer (some ⟨p, 0, none⟩)) (.int .i64 1) _ rfl rfl (fun w' => l5_at1 _ w')) ?_
    simp only [Act.put, List.setIfInBounds_toArray, List.set_cons_zero, List.set_cons_succ]
    refine .step (some 61) rfl rfl (by kernel_rfl) (Gives.load 23 (.tmp 60) rfl (.pointer (some ⟨p, 1, none⟩)) _ rfl (fun w' h => u64_load _ _ w' ((hp.belowAll h).cell (k := 1) rfl))) ?_
    simp only [Act.put, List.setIfInBounds_toArray, List.set_cons_zero, List.set_cons_succ]
    refine .step (some 62) rfl rfl (by kernel_rfl) (Gives.indexAt 24 (.tmp 6) (.const (.int .i64 0)) rfl (.pointer (some ⟨q, 0, none⟩)) (.int .i64 0) _ rfl rfl (fun w' => l5_at0 _ w')) ?_
    simp only [Act.put, List.setIfInBounds_toArray, List.set_cons_zero, List.set_cons_succ]
    refine .step (some 63) rfl rfl (by kernel_rfl) (Gives.load 23 (.tmp 62) rfl (.pointer (some ⟨q, 0, none⟩)) _ rfl (fun w' h => u64_load _ _ w' ((hq.belowAll h).cell (k := 0) rfl))) ?_
    simp only [Act.put, List.setIfInBounds_toArray, List.set_cons_zero, List.set_cons_succ]
    refine .step (some 64) rfl rfl (by kernel_rfl) (Gives.call (args := [.agg (Wd (0 + x.a * y.b)).toArray, .int .u64 ((x.b : Nat) : Int), .int .u64 ((y.a : Nat) : Int)]) rfl Tryd.func68 (by kernel_rfl) (by kernel_rfl) rfl (fun w' h => plus_any (0 + x.a * y.b) (x.b) (y.a) (by omega) (by omega) (by omega) w')) ?_
    simp only [Act.put, List.setIfInBounds_toArray, List.set_cons_zero, List.set_cons_succ]
    refine .step (some 65) rfl rfl (by kernel_rfl) (Gives.indexAt 24 (.tmp 5) (.const (.int .i64 2)) rfl (.pointer (some ⟨p, 0, none⟩)) (.int .i64 2) _ rfl rfl (fun w' => l5_at2 _ w')) ?_
    simp only [Act.put, List.setIfInBounds_toArray, List.set_cons_zero, List.set_cons_succ]
    refine .step (some 66) rfl rfl (by kernel_rfl) (Gives.load 23 (.tmp 65) rfl (.pointer (some ⟨p, 2, none⟩)) _ rfl (fun w' h => u64_load _ _ w' ((hp.belowAll h).cell (k := 2) rfl))) ?_
    simp only [Act.put, List.setIfInBounds_toArray, List.set_cons_zero, List.set_cons_succ]
    refine .step (some 67) rfl rfl (by kernel_rfl) (Gives.move (x := (.tmp 10)) rfl rfl) ?_
    simp only [Act.put, List.setIfInBounds_toArray, List.set_cons_zero, List.set_cons_succ]
    refine .step (some 68) rfl rfl (by kernel_rfl) (Gives.call (args := [.agg (Wd (0 + x.a * y.b + x.b * y.a)).toArray, .int .u64 ((x.c : Nat) : Int), .int .u64 ((19 * y.e : Nat) : Int)]) rfl Tryd.func68 (by kernel_rfl) (by kernel_rfl) rfl (fun w' h => plus_any (0 + x.a * y.b + x.b * y.a) (x.c) ((19 * y.e)) (by omega) (by omega) (by omega) w')) ?_
    simp only [Act.put, List.setIfInBounds_toArray, List.set_cons_zero, List.set_cons_succ]
    refine .step (some 69) rfl rfl (by kernel_rfl) (Gives.indexAt 24 (.tmp 5) (.const (.int .i64 3)) rfl (.pointer (some ⟨p, 0, none⟩)) (.int .i64 3) _ rfl rfl (fun w' => l5_at3 _ w')) ?_
    simp only [Act.put, List.setIfInBounds_toArray, List.set_cons_zero, List.set_cons_succ]
    refine .step (some 70) rfl rfl (by kernel_rfl) (Gives.load 23 (.tmp 69) rfl (.pointer (some ⟨p, 3, none⟩)) _ rfl (fun w' h => u64_load _ _ w' ((hp.belowAll h).cell (k := 3) rfl))) ?_
    simp only [Act.put, List.setIfInBounds_toArray, List.set_cons_zero, List.set_cons_succ]
    refine .step (some 71) rfl rfl (by kernel_rfl) (Gives.move (x := (.tmp 9)) rfl rfl) ?_
    simp only [Act.put, List.setIfInBounds_toArray, List.set_cons_zero, List.set_cons_succ]
    refine .step (some 72) rfl rfl (by kernel_rfl) (Gives.call (args := [.agg (Wd (0 + x.a * y.b + x.b * y.a + x.c * (19 * y.e))).toArray, .int .u64 ((x.d : Nat) : Int), .int .u64 ((19 * y.d : Nat) : Int)]) rfl Tryd.func68 (by kernel_rfl) (by kernel_rfl) rfl (fun w' h => plus_any (0 + x.a * y.b + x.b * y.a + x.c * (19 * y.e)) (x.d) ((19 * y.d)) (by omega) (by omega) (by omega) w')) ?_
    simp only [Act.put, List.setIfInBounds_toArray, List.set_cons_zero, List.set_cons_succ]
    refine .step (some 73) rfl rfl (by kernel_rfl) (Gives.indexAt 24 (.tmp 5) (.const (.int .i64 4)) rfl (.pointer (some ⟨p, 0, none⟩)) (.int .i64 4) _ rfl rfl (fun w' => l5_at4 _ w')) ?_
    simp only [Act.put, List.setIfInBounds_toArray, List.set_cons_zero, List.set_cons_succ]
    refine .step (some 74) rfl rfl (by kernel_rfl) (Gives.load 23 (.tmp 73) rfl (.pointer (some ⟨p, 4, none⟩)) _ rfl (fun w' h => u64_load _ _ w' ((hp.belowAll h).cell (k := 4) rfl))) ?_
    simp only [Act.put, List.setIfInBounds_toArray, List.set_cons_zero, List.set_cons_succ]
    refine .step (some 75) rfl rfl (by kernel_rfl) (Gives.move (x := (.tmp 8)) rfl rfl) ?_
    simp only [Act.put, List.setIfInBounds_toArray, List.set_cons_zero, List.set_cons_succ]
    refine .step (some 76) rfl rfl (by kernel_rfl) (Gives.call (args := [.agg (Wd (0 + x.a * y.b + x.b * y.a + x.c * (19 * y.e) + x.d * (19 * y.d))).toArray, .int .u64 ((x.e : Nat) : Int), .int .u64 ((19 * y.c : Nat) : Int)]) rfl Tryd.func68 (by kernel_rfl) (by kernel_rfl) rfl (fun w' h => plus_any (0 + x.a * y.b + x.b * y.a + x.c * (19 * y.e) + x.d * (19 * y.d)) (x.e) ((19 * y.c)) (by omega) (by omega) (by omega) w')) ?_
    simp only [Act.put, List.setIfInBounds_toArray, List.set_cons_zero, List.set_cons_succ]
    exact .nil
  case hk11 => kernel_rfl
  case e5 => intro g; rfl
  case e6 => intro g; rfl
  case h11 =>
  intro g1 W4 hb hge hg1
  simp only [Act.put, List.setIfInBounds_toArray, List.set_cons_zero, List.set_cons_succ]
  have hp' := hp.belowAll hb
  have hq' := hq.belowAll hb
  have HR11 := Lib.hid (HR10.out.belowAll hb)
  have HBW11 := Lib.hid (HBW10.out.trans (hb.mono HBW10.out.size))
  have hx0 := hg0.belowAll hb
  clear hg0
  have hg0 := hx0
  clear hx0
  rw [pm_1] at hg1
  have hs11_ := hb.size
  clear hp hq HR10 HBW10 hb hge
  have hp := hp'
  have hq := hq'
  clear hp' hq'
  go_wp2_with fail
  refine wp_flat_new_store (aD := ?aD12) (B := W4.heap.size) (S := fun w' => Below W4.heap.size W4 w') (k := 24) (s := 25) (T := 84) (z := Wd 0) (c := Wd (0 + x.a * y.c + x.b * y.b + x.c * y.a + x.d * (19 * y.e) + x.e * (19 * y.d))) (x := .tmp 13) (y := .tmp 100)
    (vs := [(0, .agg (Wd 0).toArray), (1, .pointer (some ⟨p, 0, none⟩)), (2, .int .u64 ((x.a : Nat) : Int)), (3, .pointer (some ⟨q, 2, none⟩)), (4, .int .u64 ((y.c : Nat) : Int)), (5, .agg (Wd (0 + x.a * y.c)).toArray), (6, .pointer (some ⟨p, 1, none⟩)), (7, .int .u64 ((x.b : Nat) : Int)), (8, .pointer (some ⟨q, 1, none⟩)), (9, .int .u64 ((y.b : Nat) : Int)), (10, .agg (Wd (0 + x.a * y.c + x.b * y.b)).toArray), (11, .pointer (some ⟨p, 2, none⟩)), (12, .int .u64 ((x.c : Nat) : Int)), (13, .pointer (some ⟨q, 0, none⟩)), (14, .int .u64 ((y.a : Nat) : Int)), (15, .agg (Wd (0 + x.a * y.c + x.b * y.b + x.c * y.a)).toArray), (16, .pointer (some ⟨p, 3, none⟩)), (17, .int .u64 ((x.d : Nat) : Int)), (18, .int .u64 ((19 * y.e : Nat) : Int)), (19, .agg (Wd (0 + x.a * y.c + x.b * y.b + x.c * y.a + x.d * (19 * y.e))).toArray), (20, .pointer (some ⟨p, 4, none⟩)), (21, .int .u64 ((x.e : Nat) : Int)), (22, .int .u64 ((19 * y.d : Nat) : Int)), (23, .agg (Wd (0 + x.a * y.c + x.b * y.b + x.c * y.a + x.d * (19 * y.e) + x.e * (19 * y.d))).toArray)]) (by kernel_rfl) ((Below.refl _ _).drew) (fun _ _ h k => S_trans h k) (fun _ _ cs h hg => S_row h hg cs) (fun _ h => h.size) ?hD12 (.of rfl rfl rfl (fun w' => wd_alloc w')) ?hk12 rfl rfl (some 13) rfl rfl rfl ?e5 ?e6 (wd_info _) (Wd_sz _ _) (Wd_one _) ?h12
  case hD12 =>
    refine .step (some 77) rfl rfl (by kernel_rfl) (Gives.build0 84 rfl _ (fun w' => wd_build w')) ?_
    simp only [Act.put, List.setIfInBounds_toArray, List.set_cons_zero, List.set_cons_succ]
    refine .step (some 78) rfl rfl (by kernel_rfl) (Gives.indexAt 24 (.tmp 5) (.const (.int .i64 0)) rfl (.pointer (some ⟨p, 0, none⟩)) (.int .i64 0) _ rfl rfl (fun w' => l5_at0 _ w')) ?_
    simp only [Act.put, List.setIfInBounds_toArray, List.set_cons_zero, List.set_cons_succ]
    refine .step (some 79) rfl rfl (by kernel_rfl) (Gives.load 23 (.tmp 78) rfl (.pointer (some ⟨p, 0, none⟩)) _ rfl (fun w' h => u64_load _ _ w' ((hp.belowAll h).cell (k := 0) rfl))) ?_
    simp only [Act.put, List.setIfInBounds_toArray, List.set_cons_zero, List.set_cons_succ]
    refine .step (some 80) rfl rfl (by kernel_rfl) (Gives.indexAt 24 (.tmp 6) (.const (.int .i64 2)) rfl (.pointer (some ⟨q, 0, none⟩)) (.int .i64 2) _ rfl rfl (fun w' => l5_at2 _ w')) ?_
    simp only [Act.put, List.setIfInBounds_toArray, List.set_cons_zero, List.set_cons_succ]
    refine .step (some 81) rfl rfl (by kernel_rfl) (Gives.load 23 (.tmp 80) rfl (.pointer (some ⟨q, 2, none⟩)) _ rfl (fun w' h => u64_load _ _ w' ((hq.belowAll h).cell (k := 2) rfl))) ?_
    simp only [Act.put, List.setIfInBounds_toArray, List.set_cons_zero, List.set_cons_succ]
    refine .step (some 82) rfl rfl (by kernel_rfl) (Gives.call (args := [.agg (Wd 0).toArray, .int .u64 ((x.a : Nat) : Int), .int .u64 ((y.c : Nat) : Int)]) rfl Tryd.func68 (by kernel_rfl) (by kernel_rfl) rfl (fun w' h => plus_any (0) (x.a) (y.c) (by omega) (by omega) (by omega) w')) ?_
    simp only [Act.put, List.setIfInBounds_toArray, List.set_cons_zero, List.set_cons_succ]
    refine .step (some 83) rfl rfl (by kernel_rfl) (Gives.indexAt 24 (.tmp 5) (.const (.int .i64 1)) rfl (.pointer (some ⟨p, 0, none⟩)) (.int .i64 1) _ rfl rfl (fun w' => l5_at1 _ w')) ?_
    simp only [Act.put, List.setIfInBounds_toArray, List.set_cons_zero, List.set_cons_succ]
    refine .step (some 84) rfl rfl (by kernel_rfl) (Gives.load 23 (.tmp 83) rfl (.pointer (some ⟨p, 1, none⟩)) _ rfl (fun w' h => u64_load _ _ w' ((hp.belowAll h).cell (k := 1) rfl))) ?_
    simp only [Act.put, List.setIfInBounds_toArray, List.set_cons_zero, List.set_cons_succ]
    refine .step (some 85) rfl rfl (by kernel_rfl) (Gives.indexAt 24 (.tmp 6) (.const (.int .i64 1)) rfl (.pointer (some ⟨q, 0, none⟩)) (.int .i64 1) _ rfl rfl (fun w' => l5_at1 _ w')) ?_
    simp only [Act.put, List.setIfInBounds_toArray, List.set_cons_zero, List.set_cons_succ]
    refine .step (some 86) rfl rfl (by kernel_rfl) (Gives.load 23 (.tmp 85) rfl (.pointer (some ⟨q, 1, none⟩)) _ rfl (fun w' h => u64_load _ _ w' ((hq.belowAll h).cell (k := 1) rfl))) ?_
    simp only [Act.put, List.setIfInBounds_toArray, List.set_cons_zero, List.set_cons_succ]
    refine .step (some 87) rfl rfl (by kernel_rfl) (Gives.call (args := [.agg (Wd (0 + x.a * y.c)).toArray, .int .u64 ((x.b : Nat) : Int), .int .u64 ((y.b : Nat) : Int)]) rfl Tryd.func68 (by kernel_rfl) (by kernel_rfl) rfl (fun w' h => plus_any (0 + x.a * y.c) (x.b) (y.b) (by omega) (by omega) (by omega) w')) ?_
    simp only [Act.put, List.setIfInBounds_toArray, List.set_cons_zero, List.set_cons_succ]
    refine .step (some 88) rfl rfl (by kernel_rfl) (Gives.indexAt 24 (.tmp 5) (.const (.int .i64 2)) rfl (.pointer (some ⟨p, 0, none⟩)) (.int .i64 2) _ rfl rfl (fun w' => l5_at2 _ w')) ?_
    simp only [Act.put, List.setIfInBounds_toArray, List.set_cons_zero, List.set_cons_succ]
    refine .step (some 89) rfl rfl (by kernel_rfl) (Gives.load 23 (.tmp 88) rfl (.pointer (some ⟨p, 2, none⟩)) _ rfl (fun w' h => u64_load _ _ w' ((hp.belowAll h).cell (k := 2) rfl))) ?_
    simp only [Act.put, List.setIfInBounds_toArray, List.set_cons_zero, List.set_cons_succ]
    refine .step (some 90) rfl rfl (by kernel_rfl) (Gives.indexAt 24 (.tmp 6) (.const (.int .i64 0)) rfl (.pointer (some ⟨q, 0, none⟩)) (.int .i64 0) _ rfl rfl (fun w' => l5_at0 _ w')) ?_
    simp only [Act.put, List.setIfInBounds_toArray, List.set_cons_zero, List.set_cons_succ]
    refine .step (some 91) rfl rfl (by kernel_rfl) (Gives.load 23 (.tmp 90) rfl (.pointer (some ⟨q, 0, none⟩)) _ rfl (fun w' h => u64_load _ _ w' ((hq.belowAll h).cell (k := 0) rfl))) ?_
    simp only [Act.put, List.setIfInBounds_toArray, List.set_cons_zero, List.set_cons_succ]
    refine .step (some 92) rfl rfl (by kernel_rfl) (Gives.call (args := [.agg (Wd (0 + x.a * y.c + x.b * y.b)).toArray, .int .u64 ((x.c : Nat) : Int), .int .u64 ((y.a : Nat) : Int)]) rfl Tryd.func68 (by kernel_rfl) (by kernel_rfl) rfl (fun w' h => plus_any (0 + x.a * y.c + x.b * y.b) (x.c) (y.a) (by omega) (by omega) (by omega) w')) ?_
    simp only [Act.put, List.setIfInBounds_toArray, List.set_cons_zero, List.set_cons_succ]
    refine .step (some 93) rfl rfl (by kernel_rfl) (Gives.indexAt 24 (.tmp 5) (.const (.int .i64 3)) rfl (.pointer (some ⟨p, 0, none⟩)) (.int .i64 3) _ rfl rfl (fun w' => l5_at3 _ w')) ?_
    simp only [Act.put, List.setIfInBounds_toArray, List.set_cons_zero, List.set_cons_succ]
    refine .step (some 94) rfl rfl (by kernel_rfl) (Gives.load 23 (.tmp 93) rfl (.pointer (some ⟨p, 3, none⟩)) _ rfl (fun w' h => u64_load _ _ w' ((hp.belowAll h).cell (k := 3) rfl))) ?_
    simp only [Act.put, List.setIfInBounds_toArray, List.set_cons_zero, List.set_cons_succ]
    refine .step (some 95) rfl rfl (by kernel_rfl) (Gives.move (x := (.tmp 10)) rfl rfl) ?_
    simp only [Act.put, List.setIfInBounds_toArray, List.set_cons_zero, List.set_cons_succ]
    refine .step (some 96) rfl rfl (by kernel_rfl) (Gives.call (args := [.agg (Wd (0 + x.a * y.c + x.b * y.b + x.c * y.a)).toArray, .int .u64 ((x.d : Nat) : Int), .int .u64 ((19 * y.e : Nat) : Int)]) rfl Tryd.func68 (by kernel_rfl) (by kernel_rfl) rfl (fun w' h => plus_any (0 + x.a * y.c + x.b * y.b + x.c * y.a) (x.d) ((19 * y.e)) (by omega) (by omega) (by omega) w')) ?_
    simp only [Act.put, List.setIfInBounds_toArray, List.set_cons_zero, List.set_cons_succ]
    refine .step (some 97) rfl rfl (by kernel_rfl) (Gives.indexAt 24 (.tmp 5) (.const (.int .i64 4)) rfl (.pointer (some ⟨p, 0, none⟩)) (.int .i64 4) _ rfl rfl (fun w' => l5_at4 _ w')) ?_
    simp only [Act.put, List.setIfInBounds_toArray, List.set_cons_zero, List.set_cons_succ]
    refine .step (some 98) rfl rfl (by kernel_rfl) (Gives.load 23 (.tmp 97) rfl (.pointer (some ⟨p, 4, none⟩)) _ rfl (fun w' h => u64_load _ _ w' ((hp.belowAll h).cell (k := 4) rfl))) ?_
    simp only [Act.put, List.setIfInBounds_toArray, List.set_cons_zero, List.set_cons_succ]
    refine .step (some 99) rfl rfl (by kernel_rfl) (Gives.move (x := (.tmp 9)) rfl rfl) ?_
    simp only [Act.put, List.setIfInBounds_toArray, List.set_cons_zero, List.set_cons_succ]
    refine .step (some 100) rfl rfl (by kernel_rfl) (Gives.call (args := [.agg (Wd (0 + x.a * y.c + x.b * y.b + x.c * y.a + x.d * (19 * y.e))).toArray, .int .u64 ((x.e : Nat) : Int), .int .u64 ((19 * y.d : Nat) : Int)]) rfl Tryd.func68 (by kernel_rfl) (by kernel_rfl) rfl (fun w' h => plus_any (0 + x.a * y.c + x.b * y.b + x.c * y.a + x.d * (19 * y.e)) (x.e) ((19 * y.d)) (by omega) (by omega) (by omega) w')) ?_
    simp only [Act.put, List.setIfInBounds_toArray, List.set_cons_zero, List.set_cons_succ]
    exact .nil
  case hk12 => kernel_rfl
  case e5 => intro g; rfl
  case e6 => intro g; rfl
  case h12 =>
  intro g2 W5 hb hge hg2
  simp only [Act.put, List.setIfInBounds_toArray, List.set_cons_zero, List.set_cons_succ]
  have hp' := hp.belowAll hb
  have hq' := hq.belowAll hb
  have HR12 := Lib.hid (HR11.out.belowAll hb)
  have HBW12 := Lib.hid (HBW11.out.trans (hb.mono HBW11.out.size))
  have hx0 := hg0.belowAll hb
  clear hg0
  have hg0 := hx0
  clear hx0
  have hx1 := hg1.belowAll hb
  clear hg1
  have hg1 := hx1
  clear hx1
  rw [pm_2] at hg2
  have hs12_ := hb.size
  clear hp hq HR11 HBW11 hb hge
  have hp := hp'
  have hq := hq'
  clear hp' hq'
  go_wp2_with fail
  refine wp_flat_new_store (aD := ?aD13) (B := W5.heap.size) (S := fun w' => Below W5.heap.size W5 w') (k := 25) (s := 26) (T := 84) (z := Wd 0) (c := Wd (0 + x.a * y.d + x.b * y.c + x.c * y.b + x.d * y.a + x.e * (19 * y.e))) (x := .tmp 14) (y := .tmp 125)
    (vs := [(0, .agg (Wd 0).toArray), (1, .pointer (some ⟨p, 0, none⟩)), (2, .int .u64 ((x.a : Nat) : Int)), (3, .pointer (some ⟨q, 3, none⟩)), (4, .int .u64 ((y.d : Nat) : Int)), (5, .agg (Wd (0 + x.a * y.d)).toArray), (6, .pointer (some ⟨p, 1, none⟩)), (7, .int .u64 ((x.b : Nat) : Int)), (8, .pointer (some ⟨q, 2, none⟩)), (9, .int .u64 ((y.c : Nat) : Int)), (10, .agg (Wd (0 + x.a * y.d + x.b * y.c)).toArray), (11, .pointer (some ⟨p, 2, none⟩)), (12, .int .u64 ((x.c : Nat) : Int)), (13, .pointer (some ⟨q, 1, none⟩)), (14, .int .u64 ((y.b : Nat) : Int)), (15, .agg (Wd (0 + x.a * y.d + x.b * y.c + x.c * y.b)).toArray), (16, .pointer (some ⟨p, 3, none⟩)), (17, .int .u64 ((x.d : Nat) : Int)), (18, .pointer (some ⟨q, 0, none⟩)), (19, .int .u64 ((y.a : Nat) : Int)), (20, .agg (Wd (0 + x.a * y.d + x.b * y.c + x.c * y.b + x.d * y.a)).toArray), (21, .pointer (some ⟨p, 4, none⟩)), (22, .int .u64 ((x.e : Nat) : Int)), (23, .int .u64 ((19 * y.e : Nat) : Int)), (24, .agg (Wd (0 + x.a * y.d + x.b * y.c + x.c * y.b + x.d * y.a + x.e * (19 * y.e))).toArray)]) (by kernel_rfl) ((Below.refl _ _).drew) (fun _ _ h k => S_trans h k) (fun _ _ cs h hg => S_row h hg cs) (fun _ h => h.size) ?hD13 (.of rfl rfl rfl (fun w' => wd_alloc w')) ?hk13 rfl rfl (some 14) rfl rfl rfl ?e5 ?e6 (wd_info _) (Wd_sz _ _) (Wd_one _) ?h13
  case hD13 =>
    refine .step (some 101) rfl rfl (by kernel_rfl) (Gives.build0 84 rfl _ (fun w' => wd_build w')) ?_
    simp only [Act.put, List.setIfInBounds_toArray, List.set_cons_zero, List.set_cons_succ]
    refine .step (some 102) rfl rfl (by kernel_rfl) (Gives.indexAt 24 (.tmp 5) (.const (.int .i64 0)) rfl (.pointer (some ⟨p, 0, none⟩)) (.int .i64 0) _ rfl rfl (fun w' => l5_at0 _ w')) ?_
    simp only [Act.put, List.setIfInBounds_toArray, List.set_cons_zero, List.set_cons_succ]
    refine .step (some 103) rfl rfl (by kernel_rfl) (Gives.load 23 (.tmp 102) rfl (.pointer (some ⟨p, 0, none⟩)) _ rfl (fun w' h => u64_load _ _ w' ((hp.belowAll h).cell (k := 0) rfl))) ?_
    simp only [Act.put, List.setIfInBounds_toArray, List.set_cons_zero, List.set_cons_succ]
    refine .step (some 104) rfl rfl (by kernel_rfl) (Gives.indexAt 24 (.tmp 6) (.const (.int .i64 3)) rfl (.pointer (some ⟨q, 0, none⟩)) (.int .i64 3) _ rfl rfl (fun w' => l5_at3 _ w')) ?_
    simp only [Act.put, List.setIfInBounds_toArray, List.set_cons_zero, List.set_cons_succ]
    refine .step (some 105) rfl rfl (by kernel_rfl) (Gives.load 23 (.tmp 104) rfl (.pointer (some ⟨q, 3, none⟩)) _ rfl (fun w' h => u64_load _ _ w' ((hq.belowAll h).cell (k := 3) rfl))) ?_
    simp only [Act.put, List.setIfInBounds_toArray, List.set_cons_zero, List.set_cons_succ]
    refine .step (some 106) rfl rfl (by kernel_rfl) (Gives.call (args := [.agg (Wd 0).toArray, .int .u64 ((x.a : Nat) : Int), .int .u64 ((y.d : Nat) : Int)]) rfl Tryd.func68 (by kernel_rfl) (by kernel_rfl) rfl (fun w' h => plus_any (0) (x.a) (y.d) (by omega) (by omega) (by omega) w')) ?_
    simp only [Act.put, List.setIfInBounds_toArray, List.set_cons_zero, List.set_cons_succ]
    refine .step (some 107) rfl rfl (by kernel_rfl) (Gives.indexAt 24 (.tmp 5) (.const (.int .i64 1)) rfl (.pointer (some ⟨p, 0, none⟩)) (.int .i64 1) _ rfl rfl (fun w' => l5_at1 _ w')) ?_
    simp only [Act.put, List.setIfInBounds_toArray, List.set_cons_zero, List.set_cons_succ]
    refine .step (some 108) rfl rfl (by kernel_rfl) (Gives.load 23 (.tmp 107) rfl (.pointer (some ⟨p, 1, none⟩)) _ rfl (fun w' h => u64_load _ _ w' ((hp.belowAll h).cell (k := 1) rfl))) ?_
    simp only [Act.put, List.setIfInBounds_toArray, List.set_cons_zero, List.set_cons_succ]
    refine .step (some 109) rfl rfl (by kernel_rfl) (Gives.indexAt 24 (.tmp 6) (.const (.int .i64 2)) rfl (.pointer (some ⟨q, 0, none⟩)) (.int .i64 2) _ rfl rfl (fun w' => l5_at2 _ w')) ?_
    simp only [Act.put, List.setIfInBounds_toArray, List.set_cons_zero, List.set_cons_succ]
    refine .step (some 110) rfl rfl (by kernel_rfl) (Gives.load 23 (.tmp 109) rfl (.pointer (some ⟨q, 2, none⟩)) _ rfl (fun w' h => u64_load _ _ w' ((hq.belowAll h).cell (k := 2) rfl))) ?_
    simp only [Act.put, List.setIfInBounds_toArray, List.set_cons_zero, List.set_cons_succ]
    refine .step (some 111) rfl rfl (by kernel_rfl) (Gives.call (args := [.agg (Wd (0 + x.a * y.d)).toArray, .int .u64 ((x.b : Nat) : Int), .int .u64 ((y.c : Nat) : Int)]) rfl Tryd.func68 (by kernel_rfl) (by kernel_rfl) rfl (fun w' h => plus_any (0 + x.a * y.d) (x.b) (y.c) (by omega) (by omega) (by omega) w')) ?_
    simp only [Act.put, List.setIfInBounds_toArray, List.set_cons_zero, List.set_cons_succ]
    refine .step (some 112) rfl rfl (by kernel_rfl) (Gives.indexAt 24 (.tmp 5) (.const (.int .i64 2)) rfl (.pointer (some ⟨p, 0, none⟩)) (.int .i64 2) _ rfl rfl (fun w' => l5_at2 _ w')) ?_
    simp only [Act.put, List.setIfInBounds_toArray, List.set_cons_zero, List.set_cons_succ]
    refine .step (some 113) rfl rfl (by kernel_rfl) (Gives.load 23 (.tmp 112) rfl (.pointer (some ⟨p, 2, none⟩)) _ rfl (fun w' h => u64_load _ _ w' ((hp.belowAll h).cell (k := 2) rfl))) ?_
    simp only [Act.put, List.setIfInBounds_toArray, List.set_cons_zero, List.set_cons_succ]
    refine .step (some 114) rfl rfl (by kernel_rfl) (Gives.indexAt 24 (.tmp 6) (.const (.int .i64 1)) rfl (.pointer (some ⟨q, 0, none⟩)) (.int .i64 1) _ rfl rfl (fun w' => l5_at1 _ w')) ?_
    simp only [Act.put, List.setIfInBounds_toArray, List.set_cons_zero, List.set_cons_succ]
    refine .step (some 115) rfl rfl (by kernel_rfl) (Gives.load 23 (.tmp 114) rfl (.pointer (some ⟨q, 1, none⟩)) _ rfl (fun w' h => u64_load _ _ w' ((hq.belowAll h).cell (k := 1) rfl))) ?_
    simp only [Act.put, List.setIfInBounds_toArray, List.set_cons_zero, List.set_cons_succ]
    refine .step (some 116) rfl rfl (by kernel_rfl) (Gives.call (args := [.agg (Wd (0 + x.a * y.d + x.b * y.c)).toArray, .int .u64 ((x.c : Nat) : Int), .int .u64 ((y.b : Nat) : Int)]) rfl Tryd.func68 (by kernel_rfl) (by kernel_rfl) rfl (fun w' h => plus_any (0 + x.a * y.d + x.b * y.c) (x.c) (y.b) (by omega) (by omega) (by omega) w')) ?_
    simp only [Act.put, List.setIfInBounds_toArray, List.set_cons_zero, List.set_cons_succ]
    refine .step (some 117) rfl rfl (by kernel_rfl) (Gives.indexAt 24 (.tmp 5) (.const (.int .i64 3)) rfl (.pointer (some ⟨p, 0, none⟩)) (.int .i64 3) _ rfl rfl (fun w' => l5_at3 _ w')) ?_
    simp only [Act.put, List.setIfInBounds_toArray, List.set_cons_zero, List.set_cons_succ]
    refine .step (some 118) rfl rfl (by kernel_rfl) (Gives.load 23 (.tmp 117) rfl (.pointer (some ⟨p, 3, none⟩)) _ rfl (fun w' h => u64_load _ _ w' ((hp.belowAll h).cell (k := 3) rfl))) ?_
    simp only [Act.put, List.setIfInBounds_toArray, List.set_cons_zero, List.set_cons_succ]
    refine .step (some 119) rfl rfl (by kernel_rfl) (Gives.indexAt 24 (.tmp 6) (.const (.int .i64 0)) rfl (.pointer (some ⟨q, 0, none⟩)) (.int .i64 0) _ rfl rfl (fun w' => l5_at0 _ w')) ?_
    simp only [Act.put, List.setIfInBounds_toArray, List.set_cons_zero, List.set_cons_succ]
    refine .step (some 120) rfl rfl (by kernel_rfl) (Gives.load 23 (.tmp 119) rfl (.pointer (some ⟨q, 0, none⟩)) _ rfl (fun w' h => u64_load _ _ w' ((hq.belowAll h).cell (k := 0) rfl))) ?_
    simp only [Act.put, List.setIfInBounds_toArray, List.set_cons_zero, List.set_cons_succ]
    refine .step (some 121) rfl rfl (by kernel_rfl) (Gives.call (args := [.agg (Wd (0 + x.a * y.d + x.b * y.c + x.c * y.b)).toArray, .int .u64 ((x.d : Nat) : Int), .int .u64 ((y.a : Nat) : Int)]) rfl Tryd.func68 (by kernel_rfl) (by kernel_rfl) rfl (fun w' h => plus_any (0 + x.a * y.d + x.b * y.c + x.c * y.b) (x.d) (y.a) (by omega) (by omega) (by omega) w')) ?_
    simp only [Act.put, List.setIfInBounds_toArray, List.set_cons_zero, List.set_cons_succ]
    refine .step (some 122) rfl rfl (by kernel_rfl) (Gives.indexAt 24 (.tmp 5) (.const (.int .i64 4)) rfl (.pointer (some ⟨p, 0, none⟩)) (.int .i64 4) _ rfl rfl (fun w' => l5_at4 _ w')) ?_
    simp only [Act.put, List.setIfInBounds_toArray, List.set_cons_zero, List.set_cons_succ]
    refine .step (some 123) rfl rfl (by kernel_rfl) (Gives.load 23 (.tmp 122) rfl (.pointer (some ⟨p, 4, none⟩)) _ rfl (fun w' h => u64_load _ _ w' ((hp.belowAll h).cell (k := 4) rfl))) ?_
    simp only [Act.put, List.setIfInBounds_toArray, List.set_cons_zero, List.set_cons_succ]
    refine .step (some 124) rfl rfl (by kernel_rfl) (Gives.move (x := (.tmp 10)) rfl rfl) ?_
    simp only [Act.put, List.setIfInBounds_toArray, List.set_cons_zero, List.set_cons_succ]
    refine .step (some 125) rfl rfl (by kernel_rfl) (Gives.call (args := [.agg (Wd (0 + x.a * y.d + x.b * y.c + x.c * y.b + x.d * y.a)).toArray, .int .u64 ((x.e : Nat) : Int), .int .u64 ((19 * y.e : Nat) : Int)]) rfl Tryd.func68 (by kernel_rfl) (by kernel_rfl) rfl (fun w' h => plus_any (0 + x.a * y.d + x.b * y.c + x.c * y.b + x.d * y.a) (x.e) ((19 * y.e)) (by omega) (by omega) (by omega) w')) ?_
    simp only [Act.put, List.setIfInBounds_toArray, List.set_cons_zero, List.set_cons_succ]
    exact .nil
  case hk13 => kernel_rfl
  case e5 => intro g; rfl
  case e6 => intro g; rfl
  case h13 =>
  intro g3 W6 hb hge hg3
  simp only [Act.put, List.setIfInBounds_toArray, List.set_cons_zero, List.set_cons_succ]
  have hp' := hp.belowAll hb
  have hq' := hq.belowAll hb
  have HR13 := Lib.hid (HR12.out.belowAll hb)
  have HBW13 := Lib.hid (HBW12.out.trans (hb.mono HBW12.out.size))
  have hx0 := hg0.belowAll hb
  clear hg0
  have hg0 := hx0
  clear hx0
  have hx1 := hg1.belowAll hb
  clear hg1
  have hg1 := hx1
  clear hx1
  have hx2 := hg2.belowAll hb
  clear hg2
  have hg2 := hx2
  clear hx2
  rw [pm_3] at hg3
  have hs13_ := hb.size
  clear hp hq HR12 HBW12 hb hge
  have hp := hp'
  have hq := hq'
  clear hp' hq'
  go_wp2_with fail
  refine wp_flat_new_store (aD := ?aD14) (B := W6.heap.size) (S := fun w' => Below W6.heap.size W6 w') (k := 26) (s := 27) (T := 84) (z := Wd 0) (c := Wd (0 + x.a * y.e + x.b * y.d + x.c * y.c + x.d * y.b + x.e * y.a)) (x := .tmp 15) (y := .tmp 151)
    (vs := [(0, .agg (Wd 0).toArray), (1, .pointer (some ⟨p, 0, none⟩)), (2, .int .u64 ((x.a : Nat) : Int)), (3, .pointer (some ⟨q, 4, none⟩)), (4, .int .u64 ((y.e : Nat) : Int)), (5, .agg (Wd (0 + x.a * y.e)).toArray), (6, .pointer (some ⟨p, 1, none⟩)), (7, .int .u64 ((x.b : Nat) : Int)), (8, .pointer (some ⟨q, 3, none⟩)), (9, .int .u64 ((y.d : Nat) : Int)), (10, .agg (Wd (0 + x.a * y.e + x.b * y.d)).toArray), (11, .pointer (some ⟨p, 2, none⟩)), (12, .int .u64 ((x.c : Nat) : Int)), (13, .pointer (some ⟨q, 2, none⟩)), (14, .int .u64 ((y.c : Nat) : Int)), (15, .agg (Wd (0 + x.a * y.e + x.b * y.d + x.c * y.c)).toArray), (16, .pointer (some ⟨p, 3, none⟩)), (17, .int .u64 ((x.d : Nat) : Int)), (18, .pointer (some ⟨q, 1, none⟩)), (19, .int .u64 ((y.b : Nat) : Int)), (20, .agg (Wd (0 + x.a * y.e + x.b * y.d + x.c * y.c + x.d * y.b)).toArray), (21, .pointer (some ⟨p, 4, none⟩)), (22, .int .u64 ((x.e : Nat) : Int)), (23, .pointer (some ⟨q, 0, none⟩)), (24, .int .u64 ((y.a : Nat) : Int)), (25, .agg (Wd (0 + x.a * y.e + x.b * y.d + x.c * y.c + x.d * y.b + x.e * y.a)).toArray)]) (by kernel_rfl) ((Below.refl _ _).drew) (fun _ _ h k => S_trans h k) (fun _ _ cs h hg => S_row h hg cs) (fun _ h => h.size) ?hD14 (.of rfl rfl rfl (fun w' => wd_alloc w')) ?hk14 rfl rfl (some 15) rfl rfl rfl ?e5 ?e6 (wd_info _) (Wd_sz _ _) (Wd_one _) ?h14
  case hD14 =>
    refine .step (some 126) rfl rfl (by kernel_rfl) (Gives.build0 84 rfl _ (fun w' => wd_build w')) ?_
    simp only [Act.put, List.setIfInBounds_toArray, List.set_cons_zero, List.set_cons_succ]
    refine .step (some 127) rfl rfl (by kernel_rfl) (Gives.indexAt 24 (.tmp 5) (.const (.int .i64 0)) rfl (.pointer (some ⟨p, 0, none⟩)) (.int .i64 0) _ rfl rfl (fun w' => l5_at0 _ w')) ?_
    simp only [Act.put, List.setIfInBounds_toArray, List.set_cons_zero, List.set_cons_succ]
    refine .step (some 128) rfl rfl (by kernel_rfl) (Gives.load 23 (.tmp 127) rfl (.pointer (some ⟨p, 0, none⟩)) _ rfl (fun w' h => u64_load _ _ w' ((hp.belowAll h).cell (k := 0) rfl))) ?_
    simp only [Act.put, List.setIfInBounds_toArray, List.set_cons_zero, List.set_cons_succ]
    refine .step (some 129) rfl rfl (by kernel_rfl) (Gives.indexAt 24 (.tmp 6) (.const (.int .i64 4)) rfl (.pointer (some ⟨q, 0, none⟩)) (.int .i64 4) _ rfl rfl (fun w' => l5_at4 _ w')) ?_
    simp only [Act.put, List.setIfInBounds_toArray, List.set_cons_zero, List.set_cons_succ]
    refine .step (some 130) rfl rfl (by kernel_rfl) (Gives.load 23 (.tmp 129) rfl (.pointer (some ⟨q, 4, none⟩)) _ rfl (fun w' h => u64_load _ _ w' ((hq.belowAll h).cell (k := 4) rfl))) ?_
    simp only [Act.put, List.setIfInBounds_toArray, List.set_cons_zero, List.set_cons_succ]
    refine .step (some 131) rfl rfl (by kernel_rfl) (Gives.call (args := [.agg (Wd 0).toArray, .int .u64 ((x.a : Nat) : Int), .int .u64 ((y.e : Nat) : Int)]) rfl Tryd.func68 (by kernel_rfl) (by kernel_rfl) rfl (fun w' h => plus_any (0) (x.a) (y.e) (by omega) (by omega) (by omega) w')) ?_
    simp only [Act.put, List.setIfInBounds_toArray, List.set_cons_zero, List.set_cons_succ]
    refine .step (some 132) rfl rfl (by kernel_rfl) (Gives.indexAt 24 (.tmp 5) (.const (.int .i64 1)) rfl (.pointer (some ⟨p, 0, none⟩)) (.int .i64 1) _ rfl rfl (fun w' => l5_at1 _ w')) ?_
    simp only [Act.put, List.setIfInBounds_toArray, List.set_cons_zero, List.set_cons_succ]
    refine .step (some 133) rfl rfl (by kernel_rfl) (Gives.load 23 (.tmp 132) rfl (.pointer (some ⟨p, 1, none⟩)) _ rfl (fun w' h => u64_load _ _ w' ((hp.belowAll h).cell (k := 1) rfl))) ?_
    simp only [Act.put, List.setIfInBounds_toArray, List.set_cons_zero, List.set_cons_succ]
    refine .step (some 134) rfl rfl (by kernel_rfl) (Gives.indexAt 24 (.tmp 6) (.const (.int .i64 3)) rfl (.pointer (some ⟨q, 0, none⟩)) (.int .i64 3) _ rfl rfl (fun w' => l5_at3 _ w')) ?_
    simp only [Act.put, List.setIfInBounds_toArray, List.set_cons_zero, List.set_cons_succ]
    refine .step (some 135) rfl rfl (by kernel_rfl) (Gives.load 23 (.tmp 134) rfl (.pointer (some ⟨q, 3, none⟩)) _ rfl (fun w' h => u64_load _ _ w' ((hq.belowAll h).cell (k := 3) rfl))) ?_
    simp only [Act.put, List.setIfInBounds_toArray, List.set_cons_zero, List.set_cons_succ]
    refine .step (some 136) rfl rfl (by kernel_rfl) (Gives.call (args := [.agg (Wd (0 + x.a * y.e)).toArray, .int .u64 ((x.b : Nat) : Int), .int .u64 ((y.d : Nat) : Int)]) rfl Tryd.func68 (by kernel_rfl) (by kernel_rfl) rfl (fun w' h => plus_any (0 + x.a * y.e) (x.b) (y.d) (by omega) (by omega) (by omega) w')) ?_
    simp only [Act.put, List.setIfInBounds_toArray, List.set_cons_zero, List.set_cons_succ]
    refine .step (some 137) rfl rfl (by kernel_rfl) (Gives.indexAt 24 (.tmp 5) (.const (.int .i64 2)) rfl (.pointer (some ⟨p, 0, none⟩)) (.int .i64 2) _ rfl rfl (fun w' => l5_at2 _ w')) ?_
    simp only [Act.put, List.setIfInBounds_toArray, List.set_cons_zero, List.set_cons_succ]
    refine .step (some 138) rfl rfl (by kernel_rfl) (Gives.load 23 (.tmp 137) rfl (.pointer (some ⟨p, 2, none⟩)) _ rfl (fun w' h => u64_load _ _ w' ((hp.belowAll h).cell (k := 2) rfl))) ?_
    simp only [Act.put, List.setIfInBounds_toArray, List.set_cons_zero, List.set_cons_succ]
    refine .step (some 139) rfl rfl (by kernel_rfl) (Gives.indexAt 24 (.tmp 6) (.const (.int .i64 2)) rfl (.pointer (some ⟨q, 0, none⟩)) (.int .i64 2) _ rfl rfl (fun w' => l5_at2 _ w')) ?_
    simp only [Act.put, List.setIfInBounds_toArray, List.set_cons_zero, List.set_cons_succ]
    refine .step (some 140) rfl rfl (by kernel_rfl) (Gives.load 23 (.tmp 139) rfl (.pointer (some ⟨q, 2, none⟩)) _ rfl (fun w' h => u64_load _ _ w' ((hq.belowAll h).cell (k := 2) rfl))) ?_
    simp only [Act.put, List.setIfInBounds_toArray, List.set_cons_zero, List.set_cons_succ]
    refine .step (some 141) rfl rfl (by kernel_rfl) (Gives.call (args := [.agg (Wd (0 + x.a * y.e + x.b * y.d)).toArray, .int .u64 ((x.c : Nat) : Int), .int .u64 ((y.c : Nat) : Int)]) rfl Tryd.func68 (by kernel_rfl) (by kernel_rfl) rfl (fun w' h => plus_any (0 + x.a * y.e + x.b * y.d) (x.c) (y.c) (by omega) (by omega) (by omega) w')) ?_
    simp only [Act.put, List.setIfInBounds_toArray, List.set_cons_zero, List.set_cons_succ]
    refine .step (some 142) rfl rfl (by kernel_rfl) (Gives.indexAt 24 (.tmp 5) (.const (.int .i64 3)) rfl (.pointer (some ⟨p, 0, none⟩)) (.int .i64 3) _ rfl rfl (fun w' => l5_at3 _ w')) ?_
    simp only [Act.put, List.setIfInBounds_toArray, List.set_cons_zero, List.set_cons_succ]
    refine .step (some 143) rfl rfl (by kernel_rfl) (Gives.load 23 (.tmp 142) rfl (.pointer (some ⟨p, 3, none⟩)) _ rfl (fun w' h => u64_load _ _ w' ((hp.belowAll h).cell (k := 3) rfl))) ?_
    simp only [Act.put, List.setIfInBounds_toArray, List.set_cons_zero, List.set_cons_succ]
    refine .step (some 144) rfl rfl (by kernel_rfl) (Gives.indexAt 24 (.tmp 6) (.const (.int .i64 1)) rfl (.pointer (some ⟨q, 0, none⟩)) (.int .i64 1) _ rfl rfl (fun w' => l5_at1 _ w')) ?_
    simp only [Act.put, List.setIfInBounds_toArray, List.set_cons_zero, List.set_cons_succ]
    refine .step (some 145) rfl rfl (by kernel_rfl) (Gives.load 23 (.tmp 144) rfl (.pointer (some ⟨q, 1, none⟩)) _ rfl (fun w' h => u64_load _ _ w' ((hq.belowAll h).cell (k := 1) rfl))) ?_
    simp only [Act.put, List.setIfInBounds_toArray, List.set_cons_zero, List.set_cons_succ]
    refine .step (some 146) rfl rfl (by kernel_rfl) (Gives.call (args := [.agg (Wd (0 + x.a * y.e + x.b * y.d + x.c * y.c)).toArray, .int .u64 ((x.d : Nat) : Int), .int .u64 ((y.b : Nat) : Int)]) rfl Tryd.func68 (by kernel_rfl) (by kernel_rfl) rfl (fun w' h => plus_any (0 + x.a * y.e + x.b * y.d + x.c * y.c) (x.d) (y.b) (by omega) (by omega) (by omega) w')) ?_
    simp only [Act.put, List.setIfInBounds_toArray, List.set_cons_zero, List.set_cons_succ]
    refine .step (some 147) rfl rfl (by kernel_rfl) (Gives.indexAt 24 (.tmp 5) (.const (.int .i64 4)) rfl (.pointer (some ⟨p, 0, none⟩)) (.int .i64 4) _ rfl rfl (fun w' => l5_at4 _ w')) ?_
    simp only [Act.put, List.setIfInBounds_toArray, List.set_cons_zero, List.set_cons_succ]
    refine .step (some 148) rfl rfl (by kernel_rfl) (Gives.load 23 (.tmp 147) rfl (.pointer (some ⟨p, 4, none⟩)) _ rfl (fun w' h => u64_load _ _ w' ((hp.belowAll h).cell (k := 4) rfl))) ?_
    simp only [Act.put, List.setIfInBounds_toArray, List.set_cons_zero, List.set_cons_succ]
    refine .step (some 149) rfl rfl (by kernel_rfl) (Gives.indexAt 24 (.tmp 6) (.const (.int .i64 0)) rfl (.pointer (some ⟨q, 0, none⟩)) (.int .i64 0) _ rfl rfl (fun w' => l5_at0 _ w')) ?_
    simp only [Act.put, List.setIfInBounds_toArray, List.set_cons_zero, List.set_cons_succ]
    refine .step (some 150) rfl rfl (by kernel_rfl) (Gives.load 23 (.tmp 149) rfl (.pointer (some ⟨q, 0, none⟩)) _ rfl (fun w' h => u64_load _ _ w' ((hq.belowAll h).cell (k := 0) rfl))) ?_
    simp only [Act.put, List.setIfInBounds_toArray, List.set_cons_zero, List.set_cons_succ]
    refine .step (some 151) rfl rfl (by kernel_rfl) (Gives.call (args := [.agg (Wd (0 + x.a * y.e + x.b * y.d + x.c * y.c + x.d * y.b)).toArray, .int .u64 ((x.e : Nat) : Int), .int .u64 ((y.a : Nat) : Int)]) rfl Tryd.func68 (by kernel_rfl) (by kernel_rfl) rfl (fun w' h => plus_any (0 + x.a * y.e + x.b * y.d + x.c * y.c + x.d * y.b) (x.e) (y.a) (by omega) (by omega) (by omega) w')) ?_
    simp only [Act.put, List.setIfInBounds_toArray, List.set_cons_zero, List.set_cons_succ]
    exact .nil
  case hk14 => kernel_rfl
  case e5 => intro g; rfl
  case e6 => intro g; rfl
  case h14 =>
  intro g4 W7 hb hge hg4
  simp only [Act.put, List.setIfInBounds_toArray, List.set_cons_zero, List.set_cons_succ]
  have hp' := hp.belowAll hb
  have hq' := hq.belowAll hb
  have HR14 := Lib.hid (HR13.out.belowAll hb)
  have HBW14 := Lib.hid (HBW13.out.trans (hb.mono HBW13.out.size))
  have hx0 := hg0.belowAll hb
  clear hg0
  have hg0 := hx0
  clear hx0
  have hx1 := hg1.belowAll hb
  clear hg1
  have hg1 := hx1
  clear hx1
  have hx2 := hg2.belowAll hb
  clear hg2
  have hg2 := hx2
  clear hx2
  have hx3 := hg3.belowAll hb
  clear hg3
  have hg3 := hx3
  clear hx3
  rw [pm_4] at hg4
  have hs14_ := hb.size
  clear hp hq HR13 HBW13 hb hge
  have hp := hp'
  have hq := hq'
  clear hp' hq'
  go_wp2_with fail
  have hm0 := HPROD.out.a
  have hm1 := HPROD.out.b
  have hm2 := HPROD.out.c
  have hm3 := HPROD.out.d
  have hm4 := HPROD.out.e
  have hlist := crL_list (pMul x y)
  clear hp0 hp1 hp2 hp3 hp4
  generalize hM : pMul x y = M at *
  refine wp_flat_store (aD := ?aD8) (S := fun w' => Below W7.heap.size W7 w') (s := 29) (T := 26) (T' := 26) (g := w.heap.size + 1 + 1) (z := EL zeL) (c := EL (crL (crL M))) (x := .tmp 4) (y := .tmp 180)
    (vs := [(0, .agg (Wd (M.a)).toArray), (1, .int .u64 ((M.a % 2251799813685248 : Nat) : Int)), (2, .agg (Wd (M.e)).toArray), (3, .int .u64 ((M.e / 2251799813685248 : Nat) : Int)), (4, .int .u64 ((19 * (M.e / 2251799813685248) : Nat) : Int)), (5, .int .u64 ((M.a % 2251799813685248 + 19 * (M.e / 2251799813685248) : Nat) : Int)), (6, .agg (Wd (M.b)).toArray), (7, .int .u64 ((M.b % 2251799813685248 : Nat) : Int)), (8, .agg (Wd (M.a)).toArray), (9, .int .u64 ((M.a / 2251799813685248 : Nat) : Int)), (10, .int .u64 ((M.b % 2251799813685248 + M.a / 2251799813685248 : Nat) : Int)), (11, .agg (Wd (M.c)).toArray), (12, .int .u64 ((M.c % 2251799813685248 : Nat) : Int)), (13, .agg (Wd (M.b)).toArray), (14, .int .u64 ((M.b / 2251799813685248 : Nat) : Int)), (15, .int .u64 ((M.c % 2251799813685248 + M.b / 2251799813685248 : Nat) : Int)), (16, .agg (Wd (M.d)).toArray), (17, .int .u64 ((M.d % 2251799813685248 : Nat) : Int)), (18, .agg (Wd (M.c)).toArray), (19, .int .u64 ((M.c / 2251799813685248 : Nat) : Int)), (20, .int .u64 ((M.d % 2251799813685248 + M.c / 2251799813685248 : Nat) : Int)), (21, .agg (Wd (M.e)).toArray), (22, .int .u64 ((M.e % 2251799813685248 : Nat) : Int)), (23, .agg (Wd (M.d)).toArray), (24, .int .u64 ((M.d / 2251799813685248 : Nat) : Int)), (25, .int .u64 ((M.e % 2251799813685248 + M.d / 2251799813685248 : Nat) : Int)), (26, .agg (L5 (M.a % 2251799813685248 + 19 * (M.e / 2251799813685248)) (M.b % 2251799813685248 + M.a / 2251799813685248) (M.c % 2251799813685248 + M.b / 2251799813685248) (M.d % 2251799813685248 + M.c / 2251799813685248) (M.e % 2251799813685248 + M.d / 2251799813685248)).toArray), (27, .agg (EL (crL (crL M))).toArray), (28, .agg (EL (crL (crL M))).toArray)]) (by kernel_rfl) ((Below.refl _ _).drew) (fun _ _ h k => S_trans h k) ?hD8 ?hk8 rfl rfl rfl rfl ?e5 ?e6 (fun w' h => HR14.out.belowAll h) (el_info _) (EL_sz _ _) (EL_one _) ?h8
  case hD8 =>
    refine .step (some 152) rfl rfl (by kernel_rfl) (Gives.load_row 84 (.tmp 11) rfl (g0) rfl 84 _ (fun w' h => hg0.belowAll h) Tryd.underlying84 rfl (wd_info _)) ?_
    simp only [Act.put, List.setIfInBounds_toArray, List.set_cons_zero, List.set_cons_succ]
    refine .step (some 153) rfl rfl (by kernel_rfl) (Gives.call (args := [.agg (Wd (M.a)).toArray]) rfl Tryd.func69 (by kernel_rfl) (by kernel_rfl) rfl (fun w' h => limb_n _ w')) ?_
    simp only [Act.put, List.setIfInBounds_toArray, List.set_cons_zero, List.set_cons_succ]
    refine .step (some 154) rfl rfl (by kernel_rfl) (Gives.load_row 84 (.tmp 15) rfl (g4) rfl 84 _ (fun w' h => hg4.belowAll h) Tryd.underlying84 rfl (wd_info _)) ?_
    simp only [Act.put, List.setIfInBounds_toArray, List.set_cons_zero, List.set_cons_succ]
    refine .step (some 155) rfl rfl (by kernel_rfl) (Gives.call (args := [.agg (Wd (M.e)).toArray]) rfl Tryd.func70 (by kernel_rfl) (by kernel_rfl) rfl (fun w' h => over_n _ (by omega) w')) ?_
    simp only [Act.put, List.setIfInBounds_toArray, List.set_cons_zero, List.set_cons_succ]
    refine .step (some 156) rfl rfl (by kernel_rfl) (Gives.binop .mul 23 23 (.const (.int .u64 19)) (.tmp 155) rfl (.int .u64 ((19 : Nat) : Int)) (.int .u64 ((M.e / 2251799813685248 : Nat) : Int)) _ rfl rfl (fun w' => grd_mul _ _ _ _ _ w') (fun w' => u64_mul 19 (M.e / 2251799813685248) (by omega) w')) ?_
    simp only [Act.put, List.setIfInBounds_toArray, List.set_cons_zero, List.set_cons_succ]
    refine .step (some 157) rfl rfl (by kernel_rfl) (Gives.binop .add 23 23 (.tmp 153) (.tmp 156) rfl (.int .u64 ((M.a % 2251799813685248 : Nat) : Int)) (.int .u64 ((19 * (M.e / 2251799813685248) : Nat) : Int)) _ rfl rfl (fun w' => grd_add _ _ _ _ _ w') (fun w' => u64_add (M.a % 2251799813685248) (19 * (M.e / 2251799813685248)) (by omega) w')) ?_
    simp only [Act.put, List.setIfInBounds_toArray, List.set_cons_zero, List.set_cons_succ]
    refine .step (some 158) rfl rfl (by kernel_rfl) (Gives.load_row 84 (.tmp 12) rfl (g1) rfl 84 _ (fun w' h => hg1.belowAll h) Tryd.underlying84 rfl (wd_info _)) ?_
    simp only [Act.put, List.setIfInBounds_toArray, List.set_cons_zero, List.set_cons_succ]
    refine .step (some 159) rfl rfl (by kernel_rfl) (Gives.call (args := [.agg (Wd (M.b)).toArray]) rfl Tryd.func69 (by kernel_rfl) (by kernel_rfl) rfl (fun w' h => limb_n _ w')) ?_
    simp only [Act.put, List.setIfInBounds_toArray, List.set_cons_zero, List.set_cons_succ]
    refine .step (some 160) rfl rfl (by kernel_rfl) (Gives.load_row 84 (.tmp 11) rfl (g0) rfl 84 _ (fun w' h => hg0.belowAll h) Tryd.underlying84 rfl (wd_info _)) ?_
    simp only [Act.put, List.setIfInBounds_toArray, List.set_cons_zero, List.set_cons_succ]
    refine .step (some 161) rfl rfl (by kernel_rfl) (Gives.call (args := [.agg (Wd (M.a)).toArray]) rfl Tryd.func70 (by kernel_rfl) (by kernel_rfl) rfl (fun w' h => over_n _ (by omega) w')) ?_
    simp only [Act.put, List.setIfInBounds_toArray, List.set_cons_zero, List.set_cons_succ]
    refine .step (some 162) rfl rfl (by kernel_rfl) (Gives.binop .add 23 23 (.tmp 159) (.tmp 161) rfl (.int .u64 ((M.b % 2251799813685248 : Nat) : Int)) (.int .u64 ((M.a / 2251799813685248 : Nat) : Int)) _ rfl rfl (fun w' => grd_add _ _ _ _ _ w') (fun w' => u64_add (M.b % 2251799813685248) (M.a / 2251799813685248) (by omega) w')) ?_
    simp only [Act.put, List.setIfInBounds_toArray, List.set_cons_zero, List.set_cons_succ]
    refine .step (some 163) rfl rfl (by kernel_rfl) (Gives.load_row 84 (.tmp 13) rfl (g2) rfl 84 _ (fun w' h => hg2.belowAll h) Tryd.underlying84 rfl (wd_info _)) ?_
    simp only [Act.put, List.setIfInBounds_toArray, List.set_cons_zero, List.set_cons_succ]
    refine .step (some 164) rfl rfl (by kernel_rfl) (Gives.call (args := [.agg (Wd (M.c)).toArray]) rfl Tryd.func69 (by kernel_rfl) (by kernel_rfl) rfl (fun w' h => limb_n _ w')) ?_
    simp only [Act.put, List.setIfInBounds_toArray, List.set_cons_zero, List.set_cons_succ]
    refine .step (some 165) rfl rfl (by kernel_rfl) (Gives.load_row 84 (.tmp 12) rfl (g1) rfl 84 _ (fun w' h => hg1.belowAll h) Tryd.underlying84 rfl (wd_info _)) ?_
    simp only [Act.put, List.setIfInBounds_toArray, List.set_cons_zero, List.set_cons_succ]
    refine .step (some 166) rfl rfl (by kernel_rfl) (Gives.call (args := [.agg (Wd (M.b)).toArray]) rfl Tryd.func70 (by kernel_rfl) (by kernel_rfl) rfl (fun w' h => over_n _ (by omega) w')) ?_
    simp only [Act.put, List.setIfInBounds_toArray, List.set_cons_zero, List.set_cons_succ]
    refine .step (some 167) rfl rfl (by kernel_rfl) (Gives.binop .add 23 23 (.tmp 164) (.tmp 166) rfl (.int .u64 ((M.c % 2251799813685248 : Nat) : Int)) (.int .u64 ((M.b / 2251799813685248 : Nat) : Int)) _ rfl rfl (fun w' => grd_add _ _ _ _ _ w') (fun w' => u64_add (M.c % 2251799813685248) (M.b / 2251799813685248) (by omega) w')) ?_
    simp only [Act.put, List.setIfInBounds_toArray, List.set_cons_zero, List.set_cons_succ]
    refine .step (some 168) rfl rfl (by kernel_rfl) (Gives.load_row 84 (.tmp 14) rfl (g3) rfl 84 _ (fun w' h => hg3.belowAll h) Tryd.underlying84 rfl (wd_info _)) ?_
    simp only [Act.put, List.setIfInBounds_toArray, List.set_cons_zero, List.set_cons_succ]
    refine .step (some 169) rfl rfl (by kernel_rfl) (Gives.call (args := [.agg (Wd (M.d)).toArray]) rfl Tryd.func69 (by kernel_rfl) (by kernel_rfl) rfl (fun w' h => limb_n _ w')) ?_
    simp only [Act.put, List.setIfInBounds_toArray, List.set_cons_zero, List.set_cons_succ]
    refine .step (some 170) rfl rfl (by kernel_rfl) (Gives.load_row 84 (.tmp 13) rfl (g2) rfl 84 _ (fun w' h => hg2.belowAll h) Tryd.underlying84 rfl (wd_info _)) ?_
    simp only [Act.put, List.setIfInBounds_toArray, List.set_cons_zero, List.set_cons_succ]
    refine .step (some 171) rfl rfl (by kernel_rfl) (Gives.call (args := [.agg (Wd (M.c)).toArray]) rfl Tryd.func70 (by kernel_rfl) (by kernel_rfl) rfl (fun w' h => over_n _ (by omega) w')) ?_
    simp only [Act.put, List.setIfInBounds_toArray, List.set_cons_zero, List.set_cons_succ]
    refine .step (some 172) rfl rfl (by kernel_rfl) (Gives.binop .add 23 23 (.tmp 169) (.tmp 171) rfl (.int .u64 ((M.d % 2251799813685248 : Nat) : Int)) (.int .u64 ((M.c / 2251799813685248 : Nat) : Int)) _ rfl rfl (fun w' => grd_add _ _ _ _ _ w') (fun w' => u64_add (M.d % 2251799813685248) (M.c / 2251799813685248) (by omega) w')) ?_
    simp only [Act.put, List.setIfInBounds_toArray, List.set_cons_zero, List.set_cons_succ]
    refine .step (some 173) rfl rfl (by kernel_rfl) (Gives.load_row 84 (.tmp 15) rfl (g4) rfl 84 _ (fun w' h => hg4.belowAll h) Tryd.underlying84 rfl (wd_info _)) ?_
    simp only [Act.put, List.setIfInBounds_toArray, List.set_cons_zero, List.set_cons_succ]
    refine .step (some 174) rfl rfl (by kernel_rfl) (Gives.call (args := [.agg (Wd (M.e)).toArray]) rfl Tryd.func69 (by kernel_rfl) (by kernel_rfl) rfl (fun w' h => limb_n _ w')) ?_
    simp only [Act.put, List.setIfInBounds_toArray, List.set_cons_zero, List.set_cons_succ]
    refine .step (some 175) rfl rfl (by kernel_rfl) (Gives.load_row 84 (.tmp 14) rfl (g3) rfl 84 _ (fun w' h => hg3.belowAll h) Tryd.underlying84 rfl (wd_info _)) ?_
    simp only [Act.put, List.setIfInBounds_toArray, List.set_cons_zero, List.set_cons_succ]
    refine .step (some 176) rfl rfl (by kernel_rfl) (Gives.call (args := [.agg (Wd (M.d)).toArray]) rfl Tryd.func70 (by kernel_rfl) (by kernel_rfl) rfl (fun w' h => over_n _ (by omega) w')) ?_
    simp only [Act.put, List.setIfInBounds_toArray, List.set_cons_zero, List.set_cons_succ]
    refine .step (some 177) rfl rfl (by kernel_rfl) (Gives.binop .add 23 23 (.tmp 174) (.tmp 176) rfl (.int .u64 ((M.e % 2251799813685248 : Nat) : Int)) (.int .u64 ((M.d / 2251799813685248 : Nat) : Int)) _ rfl rfl (fun w' => grd_add _ _ _ _ _ w') (fun w' => u64_add (M.e % 2251799813685248) (M.d / 2251799813685248) (by omega) w')) ?_
    simp only [Act.put, List.setIfInBounds_toArray, List.set_cons_zero, List.set_cons_succ]
    refine .step (some 178) rfl rfl (by kernel_rfl) (Gives.build5 24 (.tmp 157) (.tmp 162) (.tmp 167) (.tmp 172) (.tmp 177) rfl (.int .u64 ((M.a % 2251799813685248 + 19 * (M.e / 2251799813685248) : Nat) : Int)) (.int .u64 ((M.b % 2251799813685248 + M.a / 2251799813685248 : Nat) : Int)) (.int .u64 ((M.c % 2251799813685248 + M.b / 2251799813685248 : Nat) : Int)) (.int .u64 ((M.d % 2251799813685248 + M.c / 2251799813685248 : Nat) : Int)) (.int .u64 ((M.e % 2251799813685248 + M.d / 2251799813685248 : Nat) : Int)) _ rfl rfl rfl rfl rfl (fun w' => l5_build _ _ _ _ _ w')) ?_
    simp only [Act.put, List.setIfInBounds_toArray, List.set_cons_zero, List.set_cons_succ]
    refine .step (some 179) rfl rfl (by kernel_rfl) (Gives.call (args := [.agg (L5 (M.a % 2251799813685248 + 19 * (M.e / 2251799813685248)) (M.b % 2251799813685248 + M.a / 2251799813685248) (M.c % 2251799813685248 + M.b / 2251799813685248) (M.d % 2251799813685248 + M.c / 2251799813685248) (M.e % 2251799813685248 + M.d / 2251799813685248)).toArray]) rfl Tryd.func64 (by kernel_rfl) (by kernel_rfl) rfl (fun w' h => hlist ▸ HCR.out w')) ?_
    simp only [Act.put, List.setIfInBounds_toArray, List.set_cons_zero, List.set_cons_succ]
    refine .step (some 180) rfl rfl (by kernel_rfl) (Gives.build1 26 (.tmp 179) rfl (.agg (EL (crL (crL M))).toArray) (.agg (EL (crL (crL M))).toArray) rfl (fun w' => el_build _ w')) ?_
    simp only [Act.put, List.setIfInBounds_toArray, List.set_cons_zero, List.set_cons_succ]
    exact .nil
  case hk8 => kernel_rfl
  case e5 => rfl
  case e6 => rfl
  case h8 =>
  intro W8 hb
  have hgot := setRow_heap W8 (w.heap.size + 1 + 1) _ (EL (crL (crL M))).toArray _ _ (HR14.out.belowAll hb)
  go_wp2_with fail
  refine bodyPost_ret (results_cell_row (by rfl) _ _ (w.heap.size + 1 + 1) _ _ _ _ (by rfl) hgot Tryd.underlying26 rfl (el_info _)) rfl ?_
  exact ⟨by rw [hM], below_setRow (HBW14.out.trans (hb.mono HBW14.out.size)) (by omega) _⟩

end Go.Proofs.YthpbipebpaeagaaDoor
