import Derived.Test.YtnpjecdodhkplaaGreatDoorSG
namespace Go.Proofs.YtnpjecdodhkplaaGreatDoor
set_option maxRecDepth 100000
set_option linter.unusedSimpArgs false
open Go.RowKit
open List renaming setIfInBounds_toArray → yA, set_cons_zero → yB, set_cons_succ → yC
open Lib renaming hid → yH
theorem l5_at0 (g : Nat) (w : World) : (Instr.indexAt 60 (.pointer (some ⟨g, 0, none⟩)) (.int .i64 0)).run Tryz.prog w = .ok (.pointer (some ⟨g, 0, none⟩)) w := by kernel_rfl
theorem l5_at1 (g : Nat) (w : World) : (Instr.indexAt 60 (.pointer (some ⟨g, 0, none⟩)) (.int .i64 1)).run Tryz.prog w = .ok (.pointer (some ⟨g, 1, none⟩)) w := by kernel_rfl
theorem l5_at2 (g : Nat) (w : World) : (Instr.indexAt 60 (.pointer (some ⟨g, 0, none⟩)) (.int .i64 2)).run Tryz.prog w = .ok (.pointer (some ⟨g, 2, none⟩)) w := by kernel_rfl
theorem l5_at3 (g : Nat) (w : World) : (Instr.indexAt 60 (.pointer (some ⟨g, 0, none⟩)) (.int .i64 3)).run Tryz.prog w = .ok (.pointer (some ⟨g, 3, none⟩)) w := by kernel_rfl
theorem l5_at4 (g : Nat) (w : World) : (Instr.indexAt 60 (.pointer (some ⟨g, 0, none⟩)) (.int .i64 4)).run Tryz.prog w = .ok (.pointer (some ⟨g, 4, none⟩)) w := by kernel_rfl
theorem el_field (g : Nat) (w : World) : (Instr.fieldAt 62 (.pointer (some ⟨g, 0, none⟩)) 0).run Tryz.prog w = .ok (.pointer (some ⟨g, 0, none⟩)) w := by kernel_rfl
theorem u64_load (A : Addr) (v : Int) (w : World) (h : w.cell? A = some (.int .u64 v)) : (Instr.loadAt 59 (.pointer (some A))).run Tryz.prog w = .ok (.int .u64 v) w := by go_simp
theorem wd_build (w : World) : (Instr.build 141 #[]).run Tryz.prog w = .ok (.agg (Wd 0).toArray) w := run_build w 141 _ _ (by kernel_rfl)
theorem wd_size : (Tryz.prog.info? 141).map (·.size) = some 2 := by kernel_rfl
theorem wd_info (n : Nat) : (Tryz.prog.info? 141).map (·.size) = some (Wd n).toArray.size := wd_size.trans rfl
theorem Wd_sz (n m : Nat) : (Wd n).toArray.size = (Wd m).toArray.size := rfl
theorem Wd_one (n : Nat) : (Wd n).toArray.all (·.oneCell') = true := by rw [List.all_toArray]; rfl
theorem l5_alloc (w : World) : (Instr.alloc 60 true (.tuple #[])).run Tryz.prog w = .ok (.pointer (some ⟨w.heap.size, 0, none⟩)) (w.alloc (.cells (EL zeL).toArray 60)) := by kernel_rfl
theorem wd_alloc (w : World) : (Instr.alloc 141 true (.tuple #[])).run Tryz.prog w = .ok (.pointer (some ⟨w.heap.size, 0, none⟩)) (w.alloc (.cells (Wd 0).toArray 141)) := by kernel_rfl
theorem u64_mul (c b : Nat) (h : c * b < 18446744073709551616) (w : World) : (binOp .mul 59 (.int .u64 (c : Int)) (.int .u64 (b : Int))).run Tryz.prog w = .ok (.int .u64 ((c * b : Nat) : Int)) w := by
 have e : IntKind.u64.wrap ((c : Int) * (b : Int)) = ((c * b : Nat) : Int) := by
  rw [IntKind.wrap_u64, ← Int.natCast_mul]
  omega
 go_simp
theorem u64_add (c b : Nat) (h : c + b < 18446744073709551616) (w : World) : (binOp .add 59 (.int .u64 (c : Int)) (.int .u64 (b : Int))).run Tryz.prog w = .ok (.int .u64 ((c + b : Nat) : Int)) w := by
 have e : IntKind.u64.wrap ((c : Int) + (b : Int)) = ((c + b : Nat) : Int) := by
  rw [IntKind.wrap_u64]
  omega
 go_simp
theorem grd_mul (T : TypeId) (x y : Operand) (u v : Value) (w : World) : (eqGuard .mul T x y u v).run Tryz.prog w = .ok () w := rfl
theorem grd_add (T : TypeId) (x y : Operand) (u v : Value) (w : World) : (eqGuard .add T x y u v).run Tryz.prog w = .ok () w := rfl
theorem l5_build (a b c d e : Nat) (w : World) : (Instr.build 60 #[(0, .int .u64 (a : Int)), (1, .int .u64 (b : Int)), (2, .int .u64 (c : Int)), (3, .int .u64 (d : Int)), (4, .int .u64 (e : Int))]).run Tryz.prog w = .ok (.agg (L5 a b c d e).toArray) w := run_build w 60 _ _ (by kernel_rfl)
theorem limb_n (n : Nat) (w : World) : Calls Tryz.prog 100 #[.agg (Wd n).toArray] w fun e w' => e = .returned (.int .u64 ((n % 2251799813685248 : Nat) : Int)) ∧ Below w.heap.size w w' := by
 have h := limb_any (n / 18446744073709551616) (n % 18446744073709551616) (Nat.mod_lt _ (by decide)) w
 rw [show n % 18446744073709551616 % 2251799813685248 = n % 2251799813685248 by omega] at h
 exact h
theorem over_n (n : Nat) (hn : n < 2596148429267413814265248164610048) (w : World) : Calls Tryz.prog 101 #[.agg (Wd n).toArray] w fun e w' => e = .returned (.int .u64 ((n / 2251799813685248 : Nat) : Int)) ∧ Below w.heap.size w w' := by
 have h := over_any (n / 18446744073709551616) (n % 18446744073709551616) (Nat.mod_lt _ (by decide)) w
 rw [show n / 18446744073709551616 * 8192 % 18446744073709551616 + n % 18446744073709551616 / 2251799813685248 = n / 2251799813685248 by omega] at h
 exact h
theorem crL_list (x : Lm) : L5 (x.a % 2251799813685248 + 19 * (x.e / 2251799813685248)) (x.b % 2251799813685248 + x.a / 2251799813685248) (x.c % 2251799813685248 + x.b / 2251799813685248) (x.d % 2251799813685248 + x.c / 2251799813685248) (x.e % 2251799813685248 + x.d / 2251799813685248) = EL (crL x) := by
 rw [Nat.mul_comm 19]
 rfl
theorem pm_0 (x y : Lm) : 0 + x.a * y.a + x.b * (19 * y.e) + x.c * (19 * y.d) + x.d * (19 * y.c) + x.e * (19 * y.b) = (pMul x y).a := by simp only [pMul, Nat.zero_add]
theorem pm_1 (x y : Lm) : 0 + x.a * y.b + x.b * y.a + x.c * (19 * y.e) + x.d * (19 * y.d) + x.e * (19 * y.c) = (pMul x y).b := by simp only [pMul, Nat.zero_add]
theorem pm_2 (x y : Lm) : 0 + x.a * y.c + x.b * y.b + x.c * y.a + x.d * (19 * y.e) + x.e * (19 * y.d) = (pMul x y).c := by simp only [pMul, Nat.zero_add]
theorem pm_3 (x y : Lm) : 0 + x.a * y.d + x.b * y.c + x.c * y.b + x.d * y.a + x.e * (19 * y.e) = (pMul x y).d := by simp only [pMul, Nat.zero_add]
theorem pm_4 (x y : Lm) : 0 + x.a * y.e + x.b * y.d + x.c * y.c + x.d * y.b + x.e * y.a = (pMul x y).e := by simp only [pMul, Nat.zero_add]
set_option maxHeartbeats 6400000 in
theorem mul_any {x y : Lm} (hx : x.ok) (hy : y.ok) (w : World) :
  Calls Tryz.prog 61 #[.agg (EL x).toArray, .agg (EL y).toArray] w fun e w' => e = .returned (.agg (EL (mulL x y)).toArray) ∧ Below w.heap.size w w' := by
 have hprod := pMul_prod hx hy
 have hcr := carry_lm (crL_wide hprod)
 unfold mulL
 have hp0 := hprod.a
 rw [← pm_0] at hp0
 have hp1 := hprod.b
 rw [← pm_1] at hp1
 have hp2 := hprod.c
 rw [← pm_2] at hp2
 have hp3 := hprod.d
 rw [← pm_3] at hp3
 have hp4 := hprod.e
 rw [← pm_4] at hp4
 have lxa := hx.a
 have lxb := hx.b
 have lxc := hx.c
 have lxd := hx.d
 have lxe := hx.e
 have lya := hy.a
 have lyb := hy.b
 have lyc := hy.c
 have lyd := hy.d
 have lye := hy.e
 have hr3 := Row.new2 w (.cells (EL x).toArray 62) (.cells (EL y).toArray 62) (EL zeL) 62
 have hr1 := ((Row.new w (EL x) 62).alloc (.cells (EL y).toArray 62)).alloc (.cells (EL zeL).toArray 62)
 have hr2 := (Row.new1 w (.cells (EL x).toArray 62) (EL y) 62).alloc (.cells (EL zeL).toArray 62)
 have hb0 := Below.alloc3 w (.cells (EL x).toArray 62) (.cells (EL y).toArray 62) (.cells (EL zeL).toArray 62)
 have HPROD := yH hprod
 have HCR := yH hcr
 have HR1 := yH hr1
 have HR2 := yH hr2
 have HR3 := yH hr3
 have HB0 := yH hb0
 clear hprod hcr hr1 hr2 hr3 hb0
 go_enter Tryz.func61, Tryz.ntmps61
 go_wp2_with fail
 rw [show (#[Value.int .u64 0, .int .u64 0, .int .u64 0, .int .u64 0, .int .u64 0] : Array Value) = (EL zeL).toArray from rfl]
 have hsz0 : (((w.alloc (.cells (EL x).toArray 62)).alloc (.cells (EL y).toArray 62)).alloc (.cells (EL zeL).toArray 62)).heap.size = w.heap.size + 1 + 1 + 1 := by simp
 generalize ((w.alloc (.cells (EL x).toArray 62)).alloc (.cells (EL y).toArray 62)).alloc (.cells (EL zeL).toArray 62) = W0 at *
 refine wp_vars_two (aD := ?aD1) (B := W0.heap.size) (S := fun w' => Below W0.heap.size W0 w') (k1 := 4) (k2 := 5) (s1 := 6) (s2 := 7) (T1 := 60) (T2 := 60) (z1 := EL zeL) (z2 := EL zeL) (c1 := EL x) (c2 := EL y) (x1 := .tmp 5) (y1 := .tmp 17) (x2 := .tmp 6) (y2 := .tmp 19)
  (vs := [(0, .pointer (some ⟨w.heap.size, 0, none⟩)), (1, .agg (EL x).toArray), (2, .pointer (some ⟨w.heap.size + 1, 0, none⟩)), (3, .agg (EL y).toArray)]) (by kernel_rfl) ((Below.refl _ _).drew) (fun _ _ h k => S_trans h k) (fun _ _ cs h hg => S_row h hg cs) (fun _ h => h.size) ?hD1 (.of rfl rfl rfl (fun w' => l5_alloc w')) (.of rfl rfl rfl (fun w' => l5_alloc w')) ?hk1 (by decide) rfl rfl rfl rfl (some 5) (some 6) rfl rfl rfl rfl rfl rfl ?e1 ?e2 ?e3 ?e4 (l5_info _) (EL_sz _ _) (EL_one _) (l5_info _) (EL_sz _ _) (EL_one _) ?h1
 case hD1 =>
  refine .s 16 rfl (Gives.fieldAt 62 (.tmp 2) 0 rfl (.pointer (some ⟨w.heap.size, 0, none⟩)) (.pointer (some ⟨w.heap.size, 0, none⟩)) rfl (fun w' => el_field _ w')) ?_
  refine .s 17 rfl (Gives.load_row 60 (.tmp 16) rfl (w.heap.size) rfl 62 _ (fun w' h => HR1.out.belowAll h) Tryz.underlying60 rfl (l5_info _)) ?_
  refine .s 18 rfl (Gives.fieldAt 62 (.tmp 3) 0 rfl (.pointer (some ⟨w.heap.size + 1, 0, none⟩)) (.pointer (some ⟨w.heap.size + 1, 0, none⟩)) rfl (fun w' => el_field _ w')) ?_
  refine .s 19 rfl (Gives.load_row 60 (.tmp 18) rfl (w.heap.size + 1) rfl 62 _ (fun w' h => HR2.out.belowAll h) Tryz.underlying60 rfl (l5_info _)) ?_
  exact .nil
 case hk1 => kernel_rfl
 case e1 => intro p q; rfl
 case e2 => intro p q; rfl
 case e3 => intro p q; rfl
 case e4 => intro p q; rfl
 case h1 =>
 intro p q W1 hb1 hgp hgq hpq hp hq
 simp only [Act.put, yA, yB, yC]
 have hr3 := HR3.out.belowAll hb1
 have hbw := HB0.out.trans (hb1.mono HB0.out.size)
 have hs3 : w.heap.size + 1 + 1 < W0.heap.size := by omega
 have hs4 := hb1.size
 have HR := yH hr3
 have HBW := yH hbw
 clear hb1 hr3 hbw
 go_wp2_with fail
 refine wp_flat_none (aD := ?aD2) (S := fun w' => Below W1.heap.size W1 w') (vs := [(0, .pointer (some ⟨q, 1, none⟩)), (1, .int .u64 ((y.b : Nat) : Int)), (2, .int .u64 ((19 * y.b : Nat) : Int)), (3, .pointer (some ⟨q, 2, none⟩)), (4, .int .u64 ((y.c : Nat) : Int)), (5, .int .u64 ((19 * y.c : Nat) : Int)), (6, .pointer (some ⟨q, 3, none⟩)), (7, .int .u64 ((y.d : Nat) : Int)), (8, .int .u64 ((19 * y.d : Nat) : Int)), (9, .pointer (some ⟨q, 4, none⟩)), (10, .int .u64 ((y.e : Nat) : Int)), (11, .int .u64 ((19 * y.e : Nat) : Int)), (12, .int .u64 ((19 * y.b : Nat) : Int)), (13, .int .u64 ((19 * y.c : Nat) : Int)), (14, .int .u64 ((19 * y.d : Nat) : Int)), (15, .int .u64 ((19 * y.e : Nat) : Int))]) (by kernel_rfl) ((Below.refl _ _).drew) (fun _ _ h k => S_trans h k) ?hD2 ?hk2 ?h2
 case hD2 =>
  refine .s 20 rfl (Gives.indexAt 60 (.tmp 6) (.const (.int .i64 1)) rfl (.pointer (some ⟨q, 0, none⟩)) (.int .i64 1) _ rfl rfl (fun w' => l5_at1 _ w')) ?_
  refine .s 21 rfl (Gives.load 59 (.tmp 20) rfl (.pointer (some ⟨q, 1, none⟩)) _ rfl (fun w' h => u64_load _ _ w' ((hq.belowAll h).cell (k := 1) rfl))) ?_
  refine .s 22 rfl (Gives.binop .mul 59 59 (.const (.int .u64 19)) (.tmp 21) rfl (.int .u64 ((19 : Nat) : Int)) (.int .u64 ((y.b : Nat) : Int)) _ rfl rfl (fun w' => grd_mul _ _ _ _ _ w') (fun w' => u64_mul 19 y.b (by omega) w')) ?_
  refine .s 23 rfl (Gives.indexAt 60 (.tmp 6) (.const (.int .i64 2)) rfl (.pointer (some ⟨q, 0, none⟩)) (.int .i64 2) _ rfl rfl (fun w' => l5_at2 _ w')) ?_
  refine .s 24 rfl (Gives.load 59 (.tmp 23) rfl (.pointer (some ⟨q, 2, none⟩)) _ rfl (fun w' h => u64_load _ _ w' ((hq.belowAll h).cell (k := 2) rfl))) ?_
  refine .s 25 rfl (Gives.binop .mul 59 59 (.const (.int .u64 19)) (.tmp 24) rfl (.int .u64 ((19 : Nat) : Int)) (.int .u64 ((y.c : Nat) : Int)) _ rfl rfl (fun w' => grd_mul _ _ _ _ _ w') (fun w' => u64_mul 19 y.c (by omega) w')) ?_
  refine .s 26 rfl (Gives.indexAt 60 (.tmp 6) (.const (.int .i64 3)) rfl (.pointer (some ⟨q, 0, none⟩)) (.int .i64 3) _ rfl rfl (fun w' => l5_at3 _ w')) ?_
  refine .s 27 rfl (Gives.load 59 (.tmp 26) rfl (.pointer (some ⟨q, 3, none⟩)) _ rfl (fun w' h => u64_load _ _ w' ((hq.belowAll h).cell (k := 3) rfl))) ?_
  refine .s 28 rfl (Gives.binop .mul 59 59 (.const (.int .u64 19)) (.tmp 27) rfl (.int .u64 ((19 : Nat) : Int)) (.int .u64 ((y.d : Nat) : Int)) _ rfl rfl (fun w' => grd_mul _ _ _ _ _ w') (fun w' => u64_mul 19 y.d (by omega) w')) ?_
  refine .s 29 rfl (Gives.indexAt 60 (.tmp 6) (.const (.int .i64 4)) rfl (.pointer (some ⟨q, 0, none⟩)) (.int .i64 4) _ rfl rfl (fun w' => l5_at4 _ w')) ?_
  refine .s 30 rfl (Gives.load 59 (.tmp 29) rfl (.pointer (some ⟨q, 4, none⟩)) _ rfl (fun w' h => u64_load _ _ w' ((hq.belowAll h).cell (k := 4) rfl))) ?_
  refine .s 31 rfl (Gives.binop .mul 59 59 (.const (.int .u64 19)) (.tmp 30) rfl (.int .u64 ((19 : Nat) : Int)) (.int .u64 ((y.e : Nat) : Int)) _ rfl rfl (fun w' => grd_mul _ _ _ _ _ w') (fun w' => u64_mul 19 y.e (by omega) w')) ?_
  refine .s 7 rfl (Gives.assign (x := (.tmp 22)) rfl rfl) ?_
  refine .s 8 rfl (Gives.assign (x := (.tmp 25)) rfl rfl) ?_
  refine .s 9 rfl (Gives.assign (x := (.tmp 28)) rfl rfl) ?_
  refine .s 10 rfl (Gives.assign (x := (.tmp 31)) rfl rfl) ?_
  exact .nil
 case hk2 => kernel_rfl
 case h2 =>
 intro W2 hb2
 have hp2 := hp.belowAll hb2
 have hq2 := hq.belowAll hb2
 have HR_2 := yH (HR.out.belowAll hb2)
 have HBW_2 := yH (HBW.out.trans (hb2.mono HBW.out.size))
 have hs5 := hb2.size
 clear hp hq HR HBW hb2
 have hp := hp2
 have hq := hq2
 clear hp2 hq2
 go_wp2_with fail
 refine wp_flat_new_store (aD := ?aD10) (B := W2.heap.size) (S := fun w' => Below W2.heap.size W2 w') (k := 22) (s := 23) (T := 141) (z := Wd 0) (c := Wd (0 + x.a * y.a + x.b * (19 * y.e) + x.c * (19 * y.d) + x.d * (19 * y.c) + x.e * (19 * y.b))) (x := .tmp 11) (y := .tmp 53)
  (vs := [(0, .agg (Wd 0).toArray), (1, .pointer (some ⟨p, 0, none⟩)), (2, .int .u64 ((x.a : Nat) : Int)), (3, .pointer (some ⟨q, 0, none⟩)), (4, .int .u64 ((y.a : Nat) : Int)), (5, .agg (Wd (0 + x.a * y.a)).toArray), (6, .pointer (some ⟨p, 1, none⟩)), (7, .int .u64 ((x.b : Nat) : Int)), (8, .int .u64 ((19 * y.e : Nat) : Int)), (9, .agg (Wd (0 + x.a * y.a + x.b * (19 * y.e))).toArray), (10, .pointer (some ⟨p, 2, none⟩)), (11, .int .u64 ((x.c : Nat) : Int)), (12, .int .u64 ((19 * y.d : Nat) : Int)), (13, .agg (Wd (0 + x.a * y.a + x.b * (19 * y.e) + x.c * (19 * y.d))).toArray), (14, .pointer (some ⟨p, 3, none⟩)), (15, .int .u64 ((x.d : Nat) : Int)), (16, .int .u64 ((19 * y.c : Nat) : Int)), (17, .agg (Wd (0 + x.a * y.a + x.b * (19 * y.e) + x.c * (19 * y.d) + x.d * (19 * y.c))).toArray), (18, .pointer (some ⟨p, 4, none⟩)), (19, .int .u64 ((x.e : Nat) : Int)), (20, .int .u64 ((19 * y.b : Nat) : Int)), (21, .agg (Wd (0 + x.a * y.a + x.b * (19 * y.e) + x.c * (19 * y.d) + x.d * (19 * y.c) + x.e * (19 * y.b))).toArray)]) (by kernel_rfl) ((Below.refl _ _).drew) (fun _ _ h k => S_trans h k) (fun _ _ cs h hg => S_row h hg cs) (fun _ h => h.size) ?hD10 (.of rfl rfl rfl (fun w' => wd_alloc w')) ?hk10 rfl rfl (some 11) rfl rfl rfl ?e5 ?e6 (wd_info _) (Wd_sz _ _) (Wd_one _) ?h10
 case hD10 =>
  refine .s 32 rfl (Gives.build0 141 rfl _ (fun w' => wd_build w')) ?_
  refine .s 33 rfl (Gives.indexAt 60 (.tmp 5) (.const (.int .i64 0)) rfl (.pointer (some ⟨p, 0, none⟩)) (.int .i64 0) _ rfl rfl (fun w' => l5_at0 _ w')) ?_
  refine .s 34 rfl (Gives.load 59 (.tmp 33) rfl (.pointer (some ⟨p, 0, none⟩)) _ rfl (fun w' h => u64_load _ _ w' ((hp.belowAll h).cell (k := 0) rfl))) ?_
  refine .s 35 rfl (Gives.indexAt 60 (.tmp 6) (.const (.int .i64 0)) rfl (.pointer (some ⟨q, 0, none⟩)) (.int .i64 0) _ rfl rfl (fun w' => l5_at0 _ w')) ?_
  refine .s 36 rfl (Gives.load 59 (.tmp 35) rfl (.pointer (some ⟨q, 0, none⟩)) _ rfl (fun w' h => u64_load _ _ w' ((hq.belowAll h).cell (k := 0) rfl))) ?_
  refine .s 37 rfl (Gives.c (args := [.agg (Wd 0).toArray, .int .u64 ((x.a : Nat) : Int), .int .u64 ((y.a : Nat) : Int)]) rfl Tryz.func99 (fun w' h => plus_any (0) (x.a) (y.a) (by omega) (by omega) (by omega) w')) ?_
  refine .s 38 rfl (Gives.indexAt 60 (.tmp 5) (.const (.int .i64 1)) rfl (.pointer (some ⟨p, 0, none⟩)) (.int .i64 1) _ rfl rfl (fun w' => l5_at1 _ w')) ?_
  refine .s 39 rfl (Gives.load 59 (.tmp 38) rfl (.pointer (some ⟨p, 1, none⟩)) _ rfl (fun w' h => u64_load _ _ w' ((hp.belowAll h).cell (k := 1) rfl))) ?_
  refine .s 40 rfl (Gives.move (x := (.tmp 10)) rfl rfl) ?_
  refine .s 41 rfl (Gives.c (args := [.agg (Wd (0 + x.a * y.a)).toArray, .int .u64 ((x.b : Nat) : Int), .int .u64 ((19 * y.e : Nat) : Int)]) rfl Tryz.func99 (fun w' h => plus_any (0 + x.a * y.a) (x.b) ((19 * y.e)) (by omega) (by omega) (by omega) w')) ?_
  refine .s 42 rfl (Gives.indexAt 60 (.tmp 5) (.const (.int .i64 2)) rfl (.pointer (some ⟨p, 0, none⟩)) (.int .i64 2) _ rfl rfl (fun w' => l5_at2 _ w')) ?_
  refine .s 43 rfl (Gives.load 59 (.tmp 42) rfl (.pointer (some ⟨p, 2, none⟩)) _ rfl (fun w' h => u64_load _ _ w' ((hp.belowAll h).cell (k := 2) rfl))) ?_
  refine .s 44 rfl (Gives.move (x := (.tmp 9)) rfl rfl) ?_
  refine .s 45 rfl (Gives.c (args := [.agg (Wd (0 + x.a * y.a + x.b * (19 * y.e))).toArray, .int .u64 ((x.c : Nat) : Int), .int .u64 ((19 * y.d : Nat) : Int)]) rfl Tryz.func99 (fun w' h => plus_any (0 + x.a * y.a + x.b * (19 * y.e)) (x.c) ((19 * y.d)) (by omega) (by omega) (by omega) w')) ?_
  refine .s 46 rfl (Gives.indexAt 60 (.tmp 5) (.const (.int .i64 3)) rfl (.pointer (some ⟨p, 0, none⟩)) (.int .i64 3) _ rfl rfl (fun w' => l5_at3 _ w')) ?_
  refine .s 47 rfl (Gives.load 59 (.tmp 46) rfl (.pointer (some ⟨p, 3, none⟩)) _ rfl (fun w' h => u64_load _ _ w' ((hp.belowAll h).cell (k := 3) rfl))) ?_
  refine .s 48 rfl (Gives.move (x := (.tmp 8)) rfl rfl) ?_
  refine .s 49 rfl (Gives.c (args := [.agg (Wd (0 + x.a * y.a + x.b * (19 * y.e) + x.c * (19 * y.d))).toArray, .int .u64 ((x.d : Nat) : Int), .int .u64 ((19 * y.c : Nat) : Int)]) rfl Tryz.func99 (fun w' h => plus_any (0 + x.a * y.a + x.b * (19 * y.e) + x.c * (19 * y.d)) (x.d) ((19 * y.c)) (by omega) (by omega) (by omega) w')) ?_
  refine .s 50 rfl (Gives.indexAt 60 (.tmp 5) (.const (.int .i64 4)) rfl (.pointer (some ⟨p, 0, none⟩)) (.int .i64 4) _ rfl rfl (fun w' => l5_at4 _ w')) ?_
  refine .s 51 rfl (Gives.load 59 (.tmp 50) rfl (.pointer (some ⟨p, 4, none⟩)) _ rfl (fun w' h => u64_load _ _ w' ((hp.belowAll h).cell (k := 4) rfl))) ?_
  refine .s 52 rfl (Gives.move (x := (.tmp 7)) rfl rfl) ?_
  refine .s 53 rfl (Gives.c (args := [.agg (Wd (0 + x.a * y.a + x.b * (19 * y.e) + x.c * (19 * y.d) + x.d * (19 * y.c))).toArray, .int .u64 ((x.e : Nat) : Int), .int .u64 ((19 * y.b : Nat) : Int)]) rfl Tryz.func99 (fun w' h => plus_any (0 + x.a * y.a + x.b * (19 * y.e) + x.c * (19 * y.d) + x.d * (19 * y.c)) (x.e) ((19 * y.b)) (by omega) (by omega) (by omega) w')) ?_
  exact .nil
 case hk10 => kernel_rfl
 case e5 => intro g; rfl
 case e6 => intro g; rfl
 case h10 =>
 intro g0 W3 hb hge hg0
 simp only [Act.put, yA, yB, yC]
 have hp' := hp.belowAll hb
 have hq' := hq.belowAll hb
 have HR10 := yH (HR_2.out.belowAll hb)
 have HBW10 := yH (HBW_2.out.trans (hb.mono HBW_2.out.size))
 rw [pm_0] at hg0
 have hs10_ := hb.size
 clear hp hq HR_2 HBW_2 hb hge
 have hp := hp'
 have hq := hq'
 clear hp' hq'
 go_wp2_with fail
 refine wp_flat_new_store (aD := ?aD11) (B := W3.heap.size) (S := fun w' => Below W3.heap.size W3 w') (k := 23) (s := 24) (T := 141) (z := Wd 0) (c := Wd (0 + x.a * y.b + x.b * y.a + x.c * (19 * y.e) + x.d * (19 * y.d) + x.e * (19 * y.c))) (x := .tmp 12) (y := .tmp 76)
  (vs := [(0, .agg (Wd 0).toArray), (1, .pointer (some ⟨p, 0, none⟩)), (2, .int .u64 ((x.a : Nat) : Int)), (3, .pointer (some ⟨q, 1, none⟩)), (4, .int .u64 ((y.b : Nat) : Int)), (5, .agg (Wd (0 + x.a * y.b)).toArray), (6, .pointer (some ⟨p, 1, none⟩)), (7, .int .u64 ((x.b : Nat) : Int)), (8, .pointer (some ⟨q, 0, none⟩)), (9, .int .u64 ((y.a : Nat) : Int)), (10, .agg (Wd (0 + x.a * y.b + x.b * y.a)).toArray), (11, .pointer (some ⟨p, 2, none⟩)), (12, .int .u64 ((x.c : Nat) : Int)), (13, .int .u64 ((19 * y.e : Nat) : Int)), (14, .agg (Wd (0 + x.a * y.b + x.b * y.a + x.c * (19 * y.e))).toArray), (15, .pointer (some ⟨p, 3, none⟩)), (16, .int .u64 ((x.d : Nat) : Int)), (17, .int .u64 ((19 * y.d : Nat) : Int)), (18, .agg (Wd (0 + x.a * y.b + x.b * y.a + x.c * (19 * y.e) + x.d * (19 * y.d))).toArray), (19, .pointer (some ⟨p, 4, none⟩)), (20, .int .u64 ((x.e : Nat) : Int)), (21, .int .u64 ((19 * y.c : Nat) : Int)), (22, .agg (Wd (0 + x.a * y.b + x.b * y.a + x.c * (19 * y.e) + x.d * (19 * y.d) + x.e * (19 * y.c))).toArray)]) (by kernel_rfl) ((Below.refl _ _).drew) (fun _ _ h k => S_trans h k) (fun _ _ cs h hg => S_row h hg cs) (fun _ h => h.size) ?hD11 (.of rfl rfl rfl (fun w' => wd_alloc w')) ?hk11 rfl rfl (some 12) rfl rfl rfl ?e5 ?e6 (wd_info _) (Wd_sz _ _) (Wd_one _) ?h11
 case hD11 =>
  refine .s 54 rfl (Gives.build0 141 rfl _ (fun w' => wd_build w')) ?_
  refine .s 55 rfl (Gives.indexAt 60 (.tmp 5) (.const (.int .i64 0)) rfl (.pointer (some ⟨p, 0, none⟩)) (.int .i64 0) _ rfl rfl (fun w' => l5_at0 _ w')) ?_
  refine .s 56 rfl (Gives.load 59 (.tmp 55) rfl (.pointer (some ⟨p, 0, none⟩)) _ rfl (fun w' h => u64_load _ _ w' ((hp.belowAll h).cell (k := 0) rfl))) ?_
  refine .s 57 rfl (Gives.indexAt 60 (.tmp 6) (.const (.int .i64 1)) rfl (.pointer (some ⟨q, 0, none⟩)) (.int .i64 1) _ rfl rfl (fun w' => l5_at1 _ w')) ?_
  refine .s 58 rfl (Gives.load 59 (.tmp 57) rfl (.pointer (some ⟨q, 1, none⟩)) _ rfl (fun w' h => u64_load _ _ w' ((hq.belowAll h).cell (k := 1) rfl))) ?_
  refine .s 59 rfl (Gives.c (args := [.agg (Wd 0).toArray, .int .u64 ((x.a : Nat) : Int), .int .u64 ((y.b : Nat) : Int)]) rfl Tryz.func99 (fun w' h => plus_any (0) (x.a) (y.b) (by omega) (by omega) (by omega) w')) ?_
  refine .s 60 rfl (Gives.indexAt 60 (.tmp 5) (.const (.int .i64 1)) rfl (.pointer (some ⟨p, 0, none⟩)) (.int .i64 1) _ rfl rfl (fun w' => l5_at1 _ w')) ?_
  refine .s 61 rfl (Gives.load 59 (.tmp 60) rfl (.pointer (some ⟨p, 1, none⟩)) _ rfl (fun w' h => u64_load _ _ w' ((hp.belowAll h).cell (k := 1) rfl))) ?_
  refine .s 62 rfl (Gives.indexAt 60 (.tmp 6) (.const (.int .i64 0)) rfl (.pointer (some ⟨q, 0, none⟩)) (.int .i64 0) _ rfl rfl (fun w' => l5_at0 _ w')) ?_
  refine .s 63 rfl (Gives.load 59 (.tmp 62) rfl (.pointer (some ⟨q, 0, none⟩)) _ rfl (fun w' h => u64_load _ _ w' ((hq.belowAll h).cell (k := 0) rfl))) ?_
  refine .s 64 rfl (Gives.c (args := [.agg (Wd (0 + x.a * y.b)).toArray, .int .u64 ((x.b : Nat) : Int), .int .u64 ((y.a : Nat) : Int)]) rfl Tryz.func99 (fun w' h => plus_any (0 + x.a * y.b) (x.b) (y.a) (by omega) (by omega) (by omega) w')) ?_
  refine .s 65 rfl (Gives.indexAt 60 (.tmp 5) (.const (.int .i64 2)) rfl (.pointer (some ⟨p, 0, none⟩)) (.int .i64 2) _ rfl rfl (fun w' => l5_at2 _ w')) ?_
  refine .s 66 rfl (Gives.load 59 (.tmp 65) rfl (.pointer (some ⟨p, 2, none⟩)) _ rfl (fun w' h => u64_load _ _ w' ((hp.belowAll h).cell (k := 2) rfl))) ?_
  refine .s 67 rfl (Gives.move (x := (.tmp 10)) rfl rfl) ?_
  refine .s 68 rfl (Gives.c (args := [.agg (Wd (0 + x.a * y.b + x.b * y.a)).toArray, .int .u64 ((x.c : Nat) : Int), .int .u64 ((19 * y.e : Nat) : Int)]) rfl Tryz.func99 (fun w' h => plus_any (0 + x.a * y.b + x.b * y.a) (x.c) ((19 * y.e)) (by omega) (by omega) (by omega) w')) ?_
  refine .s 69 rfl (Gives.indexAt 60 (.tmp 5) (.const (.int .i64 3)) rfl (.pointer (some ⟨p, 0, none⟩)) (.int .i64 3) _ rfl rfl (fun w' => l5_at3 _ w')) ?_
  refine .s 70 rfl (Gives.load 59 (.tmp 69) rfl (.pointer (some ⟨p, 3, none⟩)) _ rfl (fun w' h => u64_load _ _ w' ((hp.belowAll h).cell (k := 3) rfl))) ?_
  refine .s 71 rfl (Gives.move (x := (.tmp 9)) rfl rfl) ?_
  refine .s 72 rfl (Gives.c (args := [.agg (Wd (0 + x.a * y.b + x.b * y.a + x.c * (19 * y.e))).toArray, .int .u64 ((x.d : Nat) : Int), .int .u64 ((19 * y.d : Nat) : Int)]) rfl Tryz.func99 (fun w' h => plus_any (0 + x.a * y.b + x.b * y.a + x.c * (19 * y.e)) (x.d) ((19 * y.d)) (by omega) (by omega) (by omega) w')) ?_
  refine .s 73 rfl (Gives.indexAt 60 (.tmp 5) (.const (.int .i64 4)) rfl (.pointer (some ⟨p, 0, none⟩)) (.int .i64 4) _ rfl rfl (fun w' => l5_at4 _ w')) ?_
  refine .s 74 rfl (Gives.load 59 (.tmp 73) rfl (.pointer (some ⟨p, 4, none⟩)) _ rfl (fun w' h => u64_load _ _ w' ((hp.belowAll h).cell (k := 4) rfl))) ?_
  refine .s 75 rfl (Gives.move (x := (.tmp 8)) rfl rfl) ?_
  refine .s 76 rfl (Gives.c (args := [.agg (Wd (0 + x.a * y.b + x.b * y.a + x.c * (19 * y.e) + x.d * (19 * y.d))).toArray, .int .u64 ((x.e : Nat) : Int), .int .u64 ((19 * y.c : Nat) : Int)]) rfl Tryz.func99 (fun w' h => plus_any (0 + x.a * y.b + x.b * y.a + x.c * (19 * y.e) + x.d * (19 * y.d)) (x.e) ((19 * y.c)) (by omega) (by omega) (by omega) w')) ?_
  exact .nil
 case hk11 => kernel_rfl
 case e5 => intro g; rfl
 case e6 => intro g; rfl
 case h11 =>
 intro g1 W4 hb hge hg1
 simp only [Act.put, yA, yB, yC]
 have hp' := hp.belowAll hb
 have hq' := hq.belowAll hb
 have HR11 := yH (HR10.out.belowAll hb)
 have HBW11 := yH (HBW10.out.trans (hb.mono HBW10.out.size))
 have hx0 := hg0.belowAll hb
 clear hg0
 have hg0 := hx0
 clear hx0
 rw [pm_1] at hg1
 have hs11_ := hb.size
 clear hp hq HR10 HBW10 hb hge
 have hp := hp'
 have hq := hq'
 clear hp' hq'
 go_wp2_with fail
 refine wp_flat_new_store (aD := ?aD12) (B := W4.heap.size) (S := fun w' => Below W4.heap.size W4 w') (k := 24) (s := 25) (T := 141) (z := Wd 0) (c := Wd (0 + x.a * y.c + x.b * y.b + x.c * y.a + x.d * (19 * y.e) + x.e * (19 * y.d))) (x := .tmp 13) (y := .tmp 100)
  (vs := [(0, .agg (Wd 0).toArray), (1, .pointer (some ⟨p, 0, none⟩)), (2, .int .u64 ((x.a : Nat) : Int)), (3, .pointer (some ⟨q, 2, none⟩)), (4, .int .u64 ((y.c : Nat) : Int)), (5, .agg (Wd (0 + x.a * y.c)).toArray), (6, .pointer (some ⟨p, 1, none⟩)), (7, .int .u64 ((x.b : Nat) : Int)), (8, .pointer (some ⟨q, 1, none⟩)), (9, .int .u64 ((y.b : Nat) : Int)), (10, .agg (Wd (0 + x.a * y.c + x.b * y.b)).toArray), (11, .pointer (some ⟨p, 2, none⟩)), (12, .int .u64 ((x.c : Nat) : Int)), (13, .pointer (some ⟨q, 0, none⟩)), (14, .int .u64 ((y.a : Nat) : Int)), (15, .agg (Wd (0 + x.a * y.c + x.b * y.b + x.c * y.a)).toArray), (16, .pointer (some ⟨p, 3, none⟩)), (17, .int .u64 ((x.d : Nat) : Int)), (18, .int .u64 ((19 * y.e : Nat) : Int)), (19, .agg (Wd (0 + x.a * y.c + x.b * y.b + x.c * y.a + x.d * (19 * y.e))).toArray), (20, .pointer (some ⟨p, 4, none⟩)), (21, .int .u64 ((x.e : Nat) : Int)), (22, .int .u64 ((19 * y.d : Nat) : Int)), (23, .agg (Wd (0 + x.a * y.c + x.b * y.b + x.c * y.a + x.d * (19 * y.e) + x.e * (19 * y.d))).toArray)]) (by kernel_rfl) ((Below.refl _ _).drew) (fun _ _ h k => S_trans h k) (fun _ _ cs h hg => S_row h hg cs) (fun _ h => h.size) ?hD12 (.of rfl rfl rfl (fun w' => wd_alloc w')) ?hk12 rfl rfl (some 13) rfl rfl rfl ?e5 ?e6 (wd_info _) (Wd_sz _ _) (Wd_one _) ?h12
 case hD12 =>
  refine .s 77 rfl (Gives.build0 141 rfl _ (fun w' => wd_build w')) ?_
  refine .s 78 rfl (Gives.indexAt 60 (.tmp 5) (.const (.int .i64 0)) rfl (.pointer (some ⟨p, 0, none⟩)) (.int .i64 0) _ rfl rfl (fun w' => l5_at0 _ w')) ?_
  refine .s 79 rfl (Gives.load 59 (.tmp 78) rfl (.pointer (some ⟨p, 0, none⟩)) _ rfl (fun w' h => u64_load _ _ w' ((hp.belowAll h).cell (k := 0) rfl))) ?_
  refine .s 80 rfl (Gives.indexAt 60 (.tmp 6) (.const (.int .i64 2)) rfl (.pointer (some ⟨q, 0, none⟩)) (.int .i64 2) _ rfl rfl (fun w' => l5_at2 _ w')) ?_
  refine .s 81 rfl (Gives.load 59 (.tmp 80) rfl (.pointer (some ⟨q, 2, none⟩)) _ rfl (fun w' h => u64_load _ _ w' ((hq.belowAll h).cell (k := 2) rfl))) ?_
  refine .s 82 rfl (Gives.c (args := [.agg (Wd 0).toArray, .int .u64 ((x.a : Nat) : Int), .int .u64 ((y.c : Nat) : Int)]) rfl Tryz.func99 (fun w' h => plus_any (0) (x.a) (y.c) (by omega) (by omega) (by omega) w')) ?_
  refine .s 83 rfl (Gives.indexAt 60 (.tmp 5) (.const (.int .i64 1)) rfl (.pointer (some ⟨p, 0, none⟩)) (.int .i64 1) _ rfl rfl (fun w' => l5_at1 _ w')) ?_
  refine .s 84 rfl (Gives.load 59 (.tmp 83) rfl (.pointer (some ⟨p, 1, none⟩)) _ rfl (fun w' h => u64_load _ _ w' ((hp.belowAll h).cell (k := 1) rfl))) ?_
  refine .s 85 rfl (Gives.indexAt 60 (.tmp 6) (.const (.int .i64 1)) rfl (.pointer (some ⟨q, 0, none⟩)) (.int .i64 1) _ rfl rfl (fun w' => l5_at1 _ w')) ?_
  refine .s 86 rfl (Gives.load 59 (.tmp 85) rfl (.pointer (some ⟨q, 1, none⟩)) _ rfl (fun w' h => u64_load _ _ w' ((hq.belowAll h).cell (k := 1) rfl))) ?_
  refine .s 87 rfl (Gives.c (args := [.agg (Wd (0 + x.a * y.c)).toArray, .int .u64 ((x.b : Nat) : Int), .int .u64 ((y.b : Nat) : Int)]) rfl Tryz.func99 (fun w' h => plus_any (0 + x.a * y.c) (x.b) (y.b) (by omega) (by omega) (by omega) w')) ?_
  refine .s 88 rfl (Gives.indexAt 60 (.tmp 5) (.const (.int .i64 2)) rfl (.pointer (some ⟨p, 0, none⟩)) (.int .i64 2) _ rfl rfl (fun w' => l5_at2 _ w')) ?_
  refine .s 89 rfl (Gives.load 59 (.tmp 88) rfl (.pointer (some ⟨p, 2, none⟩)) _ rfl (fun w' h => u64_load _ _ w' ((hp.belowAll h).cell (k := 2) rfl))) ?_
  refine .s 90 rfl (Gives.indexAt 60 (.tmp 6) (.const (.int .i64 0)) rfl (.pointer (some ⟨q, 0, none⟩)) (.int .i64 0) _ rfl rfl (fun w' => l5_at0 _ w')) ?_
  refine .s 91 rfl (Gives.load 59 (.tmp 90) rfl (.pointer (some ⟨q, 0, none⟩)) _ rfl (fun w' h => u64_load _ _ w' ((hq.belowAll h).cell (k := 0) rfl))) ?_
  refine .s 92 rfl (Gives.c (args := [.agg (Wd (0 + x.a * y.c + x.b * y.b)).toArray, .int .u64 ((x.c : Nat) : Int), .int .u64 ((y.a : Nat) : Int)]) rfl Tryz.func99 (fun w' h => plus_any (0 + x.a * y.c + x.b * y.b) (x.c) (y.a) (by omega) (by omega) (by omega) w')) ?_
  refine .s 93 rfl (Gives.indexAt 60 (.tmp 5) (.const (.int .i64 3)) rfl (.pointer (some ⟨p, 0, none⟩)) (.int .i64 3) _ rfl rfl (fun w' => l5_at3 _ w')) ?_
  refine .s 94 rfl (Gives.load 59 (.tmp 93) rfl (.pointer (some ⟨p, 3, none⟩)) _ rfl (fun w' h => u64_load _ _ w' ((hp.belowAll h).cell (k := 3) rfl))) ?_
  refine .s 95 rfl (Gives.move (x := (.tmp 10)) rfl rfl) ?_
  refine .s 96 rfl (Gives.c (args := [.agg (Wd (0 + x.a * y.c + x.b * y.b + x.c * y.a)).toArray, .int .u64 ((x.d : Nat) : Int), .int .u64 ((19 * y.e : Nat) : Int)]) rfl Tryz.func99 (fun w' h => plus_any (0 + x.a * y.c + x.b * y.b + x.c * y.a) (x.d) ((19 * y.e)) (by omega) (by omega) (by omega) w')) ?_
  refine .s 97 rfl (Gives.indexAt 60 (.tmp 5) (.const (.int .i64 4)) rfl (.pointer (some ⟨p, 0, none⟩)) (.int .i64 4) _ rfl rfl (fun w' => l5_at4 _ w')) ?_
  refine .s 98 rfl (Gives.load 59 (.tmp 97) rfl (.pointer (some ⟨p, 4, none⟩)) _ rfl (fun w' h => u64_load _ _ w' ((hp.belowAll h).cell (k := 4) rfl))) ?_
  refine .s 99 rfl (Gives.move (x := (.tmp 9)) rfl rfl) ?_
  refine .s 100 rfl (Gives.c (args := [.agg (Wd (0 + x.a * y.c + x.b * y.b + x.c * y.a + x.d * (19 * y.e))).toArray, .int .u64 ((x.e : Nat) : Int), .int .u64 ((19 * y.d : Nat) : Int)]) rfl Tryz.func99 (fun w' h => plus_any (0 + x.a * y.c + x.b * y.b + x.c * y.a + x.d * (19 * y.e)) (x.e) ((19 * y.d)) (by omega) (by omega) (by omega) w')) ?_
  exact .nil
 case hk12 => kernel_rfl
 case e5 => intro g; rfl
 case e6 => intro g; rfl
 case h12 =>
 intro g2 W5 hb hge hg2
 simp only [Act.put, yA, yB, yC]
 have hp' := hp.belowAll hb
 have hq' := hq.belowAll hb
 have HR12 := yH (HR11.out.belowAll hb)
 have HBW12 := yH (HBW11.out.trans (hb.mono HBW11.out.size))
 have hx0 := hg0.belowAll hb
 clear hg0
 have hg0 := hx0
 clear hx0
 have hx1 := hg1.belowAll hb
 clear hg1
 have hg1 := hx1
 clear hx1
 rw [pm_2] at hg2
 have hs12_ := hb.size
 clear hp hq HR11 HBW11 hb hge
 have hp := hp'
 have hq := hq'
 clear hp' hq'
 go_wp2_with fail
 refine wp_flat_new_store (aD := ?aD13) (B := W5.heap.size) (S := fun w' => Below W5.heap.size W5 w') (k := 25) (s := 26) (T := 141) (z := Wd 0) (c := Wd (0 + x.a * y.d + x.b * y.c + x.c * y.b + x.d * y.a + x.e * (19 * y.e))) (x := .tmp 14) (y := .tmp 125)
  (vs := [(0, .agg (Wd 0).toArray), (1, .pointer (some ⟨p, 0, none⟩)), (2, .int .u64 ((x.a : Nat) : Int)), (3, .pointer (some ⟨q, 3, none⟩)), (4, .int .u64 ((y.d : Nat) : Int)), (5, .agg (Wd (0 + x.a * y.d)).toArray), (6, .pointer (some ⟨p, 1, none⟩)), (7, .int .u64 ((x.b : Nat) : Int)), (8, .pointer (some ⟨q, 2, none⟩)), (9, .int .u64 ((y.c : Nat) : Int)), (10, .agg (Wd (0 + x.a * y.d + x.b * y.c)).toArray), (11, .pointer (some ⟨p, 2, none⟩)), (12, .int .u64 ((x.c : Nat) : Int)), (13, .pointer (some ⟨q, 1, none⟩)), (14, .int .u64 ((y.b : Nat) : Int)), (15, .agg (Wd (0 + x.a * y.d + x.b * y.c + x.c * y.b)).toArray), (16, .pointer (some ⟨p, 3, none⟩)), (17, .int .u64 ((x.d : Nat) : Int)), (18, .pointer (some ⟨q, 0, none⟩)), (19, .int .u64 ((y.a : Nat) : Int)), (20, .agg (Wd (0 + x.a * y.d + x.b * y.c + x.c * y.b + x.d * y.a)).toArray), (21, .pointer (some ⟨p, 4, none⟩)), (22, .int .u64 ((x.e : Nat) : Int)), (23, .int .u64 ((19 * y.e : Nat) : Int)), (24, .agg (Wd (0 + x.a * y.d + x.b * y.c + x.c * y.b + x.d * y.a + x.e * (19 * y.e))).toArray)]) (by kernel_rfl) ((Below.refl _ _).drew) (fun _ _ h k => S_trans h k) (fun _ _ cs h hg => S_row h hg cs) (fun _ h => h.size) ?hD13 (.of rfl rfl rfl (fun w' => wd_alloc w')) ?hk13 rfl rfl (some 14) rfl rfl rfl ?e5 ?e6 (wd_info _) (Wd_sz _ _) (Wd_one _) ?h13
 case hD13 =>
  refine .s 101 rfl (Gives.build0 141 rfl _ (fun w' => wd_build w')) ?_
  refine .s 102 rfl (Gives.indexAt 60 (.tmp 5) (.const (.int .i64 0)) rfl (.pointer (some ⟨p, 0, none⟩)) (.int .i64 0) _ rfl rfl (fun w' => l5_at0 _ w')) ?_
  refine .s 103 rfl (Gives.load 59 (.tmp 102) rfl (.pointer (some ⟨p, 0, none⟩)) _ rfl (fun w' h => u64_load _ _ w' ((hp.belowAll h).cell (k := 0) rfl))) ?_
  refine .s 104 rfl (Gives.indexAt 60 (.tmp 6) (.const (.int .i64 3)) rfl (.pointer (some ⟨q, 0, none⟩)) (.int .i64 3) _ rfl rfl (fun w' => l5_at3 _ w')) ?_
  refine .s 105 rfl (Gives.load 59 (.tmp 104) rfl (.pointer (some ⟨q, 3, none⟩)) _ rfl (fun w' h => u64_load _ _ w' ((hq.belowAll h).cell (k := 3) rfl))) ?_
  refine .s 106 rfl (Gives.c (args := [.agg (Wd 0).toArray, .int .u64 ((x.a : Nat) : Int), .int .u64 ((y.d : Nat) : Int)]) rfl Tryz.func99 (fun w' h => plus_any (0) (x.a) (y.d) (by omega) (by omega) (by omega) w')) ?_
  refine .s 107 rfl (Gives.indexAt 60 (.tmp 5) (.const (.int .i64 1)) rfl (.pointer (some ⟨p, 0, none⟩)) (.int .i64 1) _ rfl rfl (fun w' => l5_at1 _ w')) ?_
  refine .s 108 rfl (Gives.load 59 (.tmp 107) rfl (.pointer (some ⟨p, 1, none⟩)) _ rfl (fun w' h => u64_load _ _ w' ((hp.belowAll h).cell (k := 1) rfl))) ?_
  refine .s 109 rfl (Gives.indexAt 60 (.tmp 6) (.const (.int .i64 2)) rfl (.pointer (some ⟨q, 0, none⟩)) (.int .i64 2) _ rfl rfl (fun w' => l5_at2 _ w')) ?_
  refine .s 110 rfl (Gives.load 59 (.tmp 109) rfl (.pointer (some ⟨q, 2, none⟩)) _ rfl (fun w' h => u64_load _ _ w' ((hq.belowAll h).cell (k := 2) rfl))) ?_
  refine .s 111 rfl (Gives.c (args := [.agg (Wd (0 + x.a * y.d)).toArray, .int .u64 ((x.b : Nat) : Int), .int .u64 ((y.c : Nat) : Int)]) rfl Tryz.func99 (fun w' h => plus_any (0 + x.a * y.d) (x.b) (y.c) (by omega) (by omega) (by omega) w')) ?_
  refine .s 112 rfl (Gives.indexAt 60 (.tmp 5) (.const (.int .i64 2)) rfl (.pointer (some ⟨p, 0, none⟩)) (.int .i64 2) _ rfl rfl (fun w' => l5_at2 _ w')) ?_
  refine .s 113 rfl (Gives.load 59 (.tmp 112) rfl (.pointer (some ⟨p, 2, none⟩)) _ rfl (fun w' h => u64_load _ _ w' ((hp.belowAll h).cell (k := 2) rfl))) ?_
  refine .s 114 rfl (Gives.indexAt 60 (.tmp 6) (.const (.int .i64 1)) rfl (.pointer (some ⟨q, 0, none⟩)) (.int .i64 1) _ rfl rfl (fun w' => l5_at1 _ w')) ?_
  refine .s 115 rfl (Gives.load 59 (.tmp 114) rfl (.pointer (some ⟨q, 1, none⟩)) _ rfl (fun w' h => u64_load _ _ w' ((hq.belowAll h).cell (k := 1) rfl))) ?_
  refine .s 116 rfl (Gives.c (args := [.agg (Wd (0 + x.a * y.d + x.b * y.c)).toArray, .int .u64 ((x.c : Nat) : Int), .int .u64 ((y.b : Nat) : Int)]) rfl Tryz.func99 (fun w' h => plus_any (0 + x.a * y.d + x.b * y.c) (x.c) (y.b) (by omega) (by omega) (by omega) w')) ?_
  refine .s 117 rfl (Gives.indexAt 60 (.tmp 5) (.const (.int .i64 3)) rfl (.pointer (some ⟨p, 0, none⟩)) (.int .i64 3) _ rfl rfl (fun w' => l5_at3 _ w')) ?_
  refine .s 118 rfl (Gives.load 59 (.tmp 117) rfl (.pointer (some ⟨p, 3, none⟩)) _ rfl (fun w' h => u64_load _ _ w' ((hp.belowAll h).cell (k := 3) rfl))) ?_
  refine .s 119 rfl (Gives.indexAt 60 (.tmp 6) (.const (.int .i64 0)) rfl (.pointer (some ⟨q, 0, none⟩)) (.int .i64 0) _ rfl rfl (fun w' => l5_at0 _ w')) ?_
  refine .s 120 rfl (Gives.load 59 (.tmp 119) rfl (.pointer (some ⟨q, 0, none⟩)) _ rfl (fun w' h => u64_load _ _ w' ((hq.belowAll h).cell (k := 0) rfl))) ?_
  refine .s 121 rfl (Gives.c (args := [.agg (Wd (0 + x.a * y.d + x.b * y.c + x.c * y.b)).toArray, .int .u64 ((x.d : Nat) : Int), .int .u64 ((y.a : Nat) : Int)]) rfl Tryz.func99 (fun w' h => plus_any (0 + x.a * y.d + x.b * y.c + x.c * y.b) (x.d) (y.a) (by omega) (by omega) (by omega) w')) ?_
  refine .s 122 rfl (Gives.indexAt 60 (.tmp 5) (.const (.int .i64 4)) rfl (.pointer (some ⟨p, 0, none⟩)) (.int .i64 4) _ rfl rfl (fun w' => l5_at4 _ w')) ?_
  refine .s 123 rfl (Gives.load 59 (.tmp 122) rfl (.pointer (some ⟨p, 4, none⟩)) _ rfl (fun w' h => u64_load _ _ w' ((hp.belowAll h).cell (k := 4) rfl))) ?_
  refine .s 124 rfl (Gives.move (x := (.tmp 10)) rfl rfl) ?_
  refine .s 125 rfl (Gives.c (args := [.agg (Wd (0 + x.a * y.d + x.b * y.c + x.c * y.b + x.d * y.a)).toArray, .int .u64 ((x.e : Nat) : Int), .int .u64 ((19 * y.e : Nat) : Int)]) rfl Tryz.func99 (fun w' h => plus_any (0 + x.a * y.d + x.b * y.c + x.c * y.b + x.d * y.a) (x.e) ((19 * y.e)) (by omega) (by omega) (by omega) w')) ?_
  exact .nil
 case hk13 => kernel_rfl
 case e5 => intro g; rfl
 case e6 => intro g; rfl
 case h13 =>
 intro g3 W6 hb hge hg3
 simp only [Act.put, yA, yB, yC]
 have hp' := hp.belowAll hb
 have hq' := hq.belowAll hb
 have HR13 := yH (HR12.out.belowAll hb)
 have HBW13 := yH (HBW12.out.trans (hb.mono HBW12.out.size))
 have hx0 := hg0.belowAll hb
 clear hg0
 have hg0 := hx0
 clear hx0
 have hx1 := hg1.belowAll hb
 clear hg1
 have hg1 := hx1
 clear hx1
 have hx2 := hg2.belowAll hb
 clear hg2
 have hg2 := hx2
 clear hx2
 rw [pm_3] at hg3
 have hs13_ := hb.size
 clear hp hq HR12 HBW12 hb hge
 have hp := hp'
 have hq := hq'
 clear hp' hq'
 go_wp2_with fail
 refine wp_flat_new_store (aD := ?aD14) (B := W6.heap.size) (S := fun w' => Below W6.heap.size W6 w') (k := 26) (s := 27) (T := 141) (z := Wd 0) (c := Wd (0 + x.a * y.e + x.b * y.d + x.c * y.c + x.d * y.b + x.e * y.a)) (x := .tmp 15) (y := .tmp 151)
  (vs := [(0, .agg (Wd 0).toArray), (1, .pointer (some ⟨p, 0, none⟩)), (2, .int .u64 ((x.a : Nat) : Int)), (3, .pointer (some ⟨q, 4, none⟩)), (4, .int .u64 ((y.e : Nat) : Int)), (5, .agg (Wd (0 + x.a * y.e)).toArray), (6, .pointer (some ⟨p, 1, none⟩)), (7, .int .u64 ((x.b : Nat) : Int)), (8, .pointer (some ⟨q, 3, none⟩)), (9, .int .u64 ((y.d : Nat) : Int)), (10, .agg (Wd (0 + x.a * y.e + x.b * y.d)).toArray), (11, .pointer (some ⟨p, 2, none⟩)), (12, .int .u64 ((x.c : Nat) : Int)), (13, .pointer (some ⟨q, 2, none⟩)), (14, .int .u64 ((y.c : Nat) : Int)), (15, .agg (Wd (0 + x.a * y.e + x.b * y.d + x.c * y.c)).toArray), (16, .pointer (some ⟨p, 3, none⟩)), (17, .int .u64 ((x.d : Nat) : Int)), (18, .pointer (some ⟨q, 1, none⟩)), (19, .int .u64 ((y.b : Nat) : Int)), (20, .agg (Wd (0 + x.a * y.e + x.b * y.d + x.c * y.c + x.d * y.b)).toArray), (21, .pointer (some ⟨p, 4, none⟩)), (22, .int .u64 ((x.e : Nat) : Int)), (23, .pointer (some ⟨q, 0, none⟩)), (24, .int .u64 ((y.a : Nat) : Int)), (25, .agg (Wd (0 + x.a * y.e + x.b * y.d + x.c * y.c + x.d * y.b + x.e * y.a)).toArray)]) (by kernel_rfl) ((Below.refl _ _).drew) (fun _ _ h k => S_trans h k) (fun _ _ cs h hg => S_row h hg cs) (fun _ h => h.size) ?hD14 (.of rfl rfl rfl (fun w' => wd_alloc w')) ?hk14 rfl rfl (some 15) rfl rfl rfl ?e5 ?e6 (wd_info _) (Wd_sz _ _) (Wd_one _) ?h14
 case hD14 =>
  refine .s 126 rfl (Gives.build0 141 rfl _ (fun w' => wd_build w')) ?_
  refine .s 127 rfl (Gives.indexAt 60 (.tmp 5) (.const (.int .i64 0)) rfl (.pointer (some ⟨p, 0, none⟩)) (.int .i64 0) _ rfl rfl (fun w' => l5_at0 _ w')) ?_
  refine .s 128 rfl (Gives.load 59 (.tmp 127) rfl (.pointer (some ⟨p, 0, none⟩)) _ rfl (fun w' h => u64_load _ _ w' ((hp.belowAll h).cell (k := 0) rfl))) ?_
  refine .s 129 rfl (Gives.indexAt 60 (.tmp 6) (.const (.int .i64 4)) rfl (.pointer (some ⟨q, 0, none⟩)) (.int .i64 4) _ rfl rfl (fun w' => l5_at4 _ w')) ?_
  refine .s 130 rfl (Gives.load 59 (.tmp 129) rfl (.pointer (some ⟨q, 4, none⟩)) _ rfl (fun w' h => u64_load _ _ w' ((hq.belowAll h).cell (k := 4) rfl))) ?_
  refine .s 131 rfl (Gives.c (args := [.agg (Wd 0).toArray, .int .u64 ((x.a : Nat) : Int), .int .u64 ((y.e : Nat) : Int)]) rfl Tryz.func99 (fun w' h => plus_any (0) (x.a) (y.e) (by omega) (by omega) (by omega) w')) ?_
  refine .s 132 rfl (Gives.indexAt 60 (.tmp 5) (.const (.int .i64 1)) rfl (.pointer (some ⟨p, 0, none⟩)) (.int .i64 1) _ rfl rfl (fun w' => l5_at1 _ w')) ?_
  refine .s 133 rfl (Gives.load 59 (.tmp 132) rfl (.pointer (some ⟨p, 1, none⟩)) _ rfl (fun w' h => u64_load _ _ w' ((hp.belowAll h).cell (k := 1) rfl))) ?_
  refine .s 134 rfl (Gives.indexAt 60 (.tmp 6) (.const (.int .i64 3)) rfl (.pointer (some ⟨q, 0, none⟩)) (.int .i64 3) _ rfl rfl (fun w' => l5_at3 _ w')) ?_
  refine .s 135 rfl (Gives.load 59 (.tmp 134) rfl (.pointer (some ⟨q, 3, none⟩)) _ rfl (fun w' h => u64_load _ _ w' ((hq.belowAll h).cell (k := 3) rfl))) ?_
  refine .s 136 rfl (Gives.c (args := [.agg (Wd (0 + x.a * y.e)).toArray, .int .u64 ((x.b : Nat) : Int), .int .u64 ((y.d : Nat) : Int)]) rfl Tryz.func99 (fun w' h => plus_any (0 + x.a * y.e) (x.b) (y.d) (by omega) (by omega) (by omega) w')) ?_
  refine .s 137 rfl (Gives.indexAt 60 (.tmp 5) (.const (.int .i64 2)) rfl (.pointer (some ⟨p, 0, none⟩)) (.int .i64 2) _ rfl rfl (fun w' => l5_at2 _ w')) ?_
  refine .s 138 rfl (Gives.load 59 (.tmp 137) rfl (.pointer (some ⟨p, 2, none⟩)) _ rfl (fun w' h => u64_load _ _ w' ((hp.belowAll h).cell (k := 2) rfl))) ?_
  refine .s 139 rfl (Gives.indexAt 60 (.tmp 6) (.const (.int .i64 2)) rfl (.pointer (some ⟨q, 0, none⟩)) (.int .i64 2) _ rfl rfl (fun w' => l5_at2 _ w')) ?_
  refine .s 140 rfl (Gives.load 59 (.tmp 139) rfl (.pointer (some ⟨q, 2, none⟩)) _ rfl (fun w' h => u64_load _ _ w' ((hq.belowAll h).cell (k := 2) rfl))) ?_
  refine .s 141 rfl (Gives.c (args := [.agg (Wd (0 + x.a * y.e + x.b * y.d)).toArray, .int .u64 ((x.c : Nat) : Int), .int .u64 ((y.c : Nat) : Int)]) rfl Tryz.func99 (fun w' h => plus_any (0 + x.a * y.e + x.b * y.d) (x.c) (y.c) (by omega) (by omega) (by omega) w')) ?_
  refine .s 142 rfl (Gives.indexAt 60 (.tmp 5) (.const (.int .i64 3)) rfl (.pointer (some ⟨p, 0, none⟩)) (.int .i64 3) _ rfl rfl (fun w' => l5_at3 _ w')) ?_
  refine .s 143 rfl (Gives.load 59 (.tmp 142) rfl (.pointer (some ⟨p, 3, none⟩)) _ rfl (fun w' h => u64_load _ _ w' ((hp.belowAll h).cell (k := 3) rfl))) ?_
  refine .s 144 rfl (Gives.indexAt 60 (.tmp 6) (.const (.int .i64 1)) rfl (.pointer (some ⟨q, 0, none⟩)) (.int .i64 1) _ rfl rfl (fun w' => l5_at1 _ w')) ?_
  refine .s 145 rfl (Gives.load 59 (.tmp 144) rfl (.pointer (some ⟨q, 1, none⟩)) _ rfl (fun w' h => u64_load _ _ w' ((hq.belowAll h).cell (k := 1) rfl))) ?_
  refine .s 146 rfl (Gives.c (args := [.agg (Wd (0 + x.a * y.e + x.b * y.d + x.c * y.c)).toArray, .int .u64 ((x.d : Nat) : Int), .int .u64 ((y.b : Nat) : Int)]) rfl Tryz.func99 (fun w' h => plus_any (0 + x.a * y.e + x.b * y.d + x.c * y.c) (x.d) (y.b) (by omega) (by omega) (by omega) w')) ?_
  refine .s 147 rfl (Gives.indexAt 60 (.tmp 5) (.const (.int .i64 4)) rfl (.pointer (some ⟨p, 0, none⟩)) (.int .i64 4) _ rfl rfl (fun w' => l5_at4 _ w')) ?_
  refine .s 148 rfl (Gives.load 59 (.tmp 147) rfl (.pointer (some ⟨p, 4, none⟩)) _ rfl (fun w' h => u64_load _ _ w' ((hp.belowAll h).cell (k := 4) rfl))) ?_
  refine .s 149 rfl (Gives.indexAt 60 (.tmp 6) (.const (.int .i64 0)) rfl (.pointer (some ⟨q, 0, none⟩)) (.int .i64 0) _ rfl rfl (fun w' => l5_at0 _ w')) ?_
  refine .s 150 rfl (Gives.load 59 (.tmp 149) rfl (.pointer (some ⟨q, 0, none⟩)) _ rfl (fun w' h => u64_load _ _ w' ((hq.belowAll h).cell (k := 0) rfl))) ?_
  refine .s 151 rfl (Gives.c (args := [.agg (Wd (0 + x.a * y.e + x.b * y.d + x.c * y.c + x.d * y.b)).toArray, .int .u64 ((x.e : Nat) : Int), .int .u64 ((y.a : Nat) : Int)]) rfl Tryz.func99 (fun w' h => plus_any (0 + x.a * y.e + x.b * y.d + x.c * y.c + x.d * y.b) (x.e) (y.a) (by omega) (by omega) (by omega) w')) ?_
  exact .nil
 case hk14 => kernel_rfl
 case e5 => intro g; rfl
 case e6 => intro g; rfl
 case h14 =>
 intro g4 W7 hb hge hg4
 simp only [Act.put, yA, yB, yC]
 have hp' := hp.belowAll hb
 have hq' := hq.belowAll hb
 have HR14 := yH (HR13.out.belowAll hb)
 have HBW14 := yH (HBW13.out.trans (hb.mono HBW13.out.size))
 have hx0 := hg0.belowAll hb
 clear hg0
 have hg0 := hx0
 clear hx0
 have hx1 := hg1.belowAll hb
 clear hg1
 have hg1 := hx1
 clear hx1
 have hx2 := hg2.belowAll hb
 clear hg2
 have hg2 := hx2
 clear hx2
 have hx3 := hg3.belowAll hb
 clear hg3
 have hg3 := hx3
 clear hx3
 rw [pm_4] at hg4
 have hs14_ := hb.size
 clear hp hq HR13 HBW13 hb hge
 have hp := hp'
 have hq := hq'
 clear hp' hq'
 go_wp2_with fail
 have hm0 := HPROD.out.a
 have hm1 := HPROD.out.b
 have hm2 := HPROD.out.c
 have hm3 := HPROD.out.d
 have hm4 := HPROD.out.e
 have hlist := crL_list (pMul x y)
 clear hp0 hp1 hp2 hp3 hp4
 generalize hM : pMul x y = M at *
 refine wp_flat_store (aD := ?aD8) (S := fun w' => Below W7.heap.size W7 w') (s := 29) (T := 62) (T' := 62) (g := w.heap.size + 1 + 1) (z := EL zeL) (c := EL (crL (crL M))) (x := .tmp 4) (y := .tmp 180)
  (vs := [(0, .agg (Wd (M.a)).toArray), (1, .int .u64 ((M.a % 2251799813685248 : Nat) : Int)), (2, .agg (Wd (M.e)).toArray), (3, .int .u64 ((M.e / 2251799813685248 : Nat) : Int)), (4, .int .u64 ((19 * (M.e / 2251799813685248) : Nat) : Int)), (5, .int .u64 ((M.a % 2251799813685248 + 19 * (M.e / 2251799813685248) : Nat) : Int)), (6, .agg (Wd (M.b)).toArray), (7, .int .u64 ((M.b % 2251799813685248 : Nat) : Int)), (8, .agg (Wd (M.a)).toArray), (9, .int .u64 ((M.a / 2251799813685248 : Nat) : Int)), (10, .int .u64 ((M.b % 2251799813685248 + M.a / 2251799813685248 : Nat) : Int)), (11, .agg (Wd (M.c)).toArray), (12, .int .u64 ((M.c % 2251799813685248 : Nat) : Int)), (13, .agg (Wd (M.b)).toArray), (14, .int .u64 ((M.b / 2251799813685248 : Nat) : Int)), (15, .int .u64 ((M.c % 2251799813685248 + M.b / 2251799813685248 : Nat) : Int)), (16, .agg (Wd (M.d)).toArray), (17, .int .u64 ((M.d % 2251799813685248 : Nat) : Int)), (18, .agg (Wd (M.c)).toArray), (19, .int .u64 ((M.c / 2251799813685248 : Nat) : Int)), (20, .int .u64 ((M.d % 2251799813685248 + M.c / 2251799813685248 : Nat) : Int)), (21, .agg (Wd (M.e)).toArray), (22, .int .u64 ((M.e % 2251799813685248 : Nat) : Int)), (23, .agg (Wd (M.d)).toArray), (24, .int .u64 ((M.d / 2251799813685248 : Nat) : Int)), (25, .int .u64 ((M.e % 2251799813685248 + M.d / 2251799813685248 : Nat) : Int)), (26, .agg (L5 (M.a % 2251799813685248 + 19 * (M.e / 2251799813685248)) (M.b % 2251799813685248 + M.a / 2251799813685248) (M.c % 2251799813685248 + M.b / 2251799813685248) (M.d % 2251799813685248 + M.c / 2251799813685248) (M.e % 2251799813685248 + M.d / 2251799813685248)).toArray), (27, .agg (EL (crL (crL M))).toArray), (28, .agg (EL (crL (crL M))).toArray)]) (by kernel_rfl) ((Below.refl _ _).drew) (fun _ _ h k => S_trans h k) ?hD8 ?hk8 rfl rfl rfl rfl ?e5 ?e6 (fun w' h => HR14.out.belowAll h) (el_info _) (EL_sz _ _) (EL_one _) ?h8
 case hD8 =>
  refine .s 152 rfl (Gives.l 141 (.tmp 11) (g0) (fun w' h => hg0.belowAll h) Tryz.underlying141 (wd_info _)) ?_
  refine .s 153 rfl (Gives.c (args := [.agg (Wd (M.a)).toArray]) rfl Tryz.func100 (fun w' h => limb_n _ w')) ?_
  refine .s 154 rfl (Gives.l 141 (.tmp 15) (g4) (fun w' h => hg4.belowAll h) Tryz.underlying141 (wd_info _)) ?_
  refine .s 155 rfl (Gives.c (args := [.agg (Wd (M.e)).toArray]) rfl Tryz.func101 (fun w' h => over_n _ (by omega) w')) ?_
  refine .s 156 rfl (Gives.binop .mul 59 59 (.const (.int .u64 19)) (.tmp 155) rfl (.int .u64 ((19 : Nat) : Int)) (.int .u64 ((M.e / 2251799813685248 : Nat) : Int)) _ rfl rfl (fun w' => grd_mul _ _ _ _ _ w') (fun w' => u64_mul 19 (M.e / 2251799813685248) (by omega) w')) ?_
  refine .s 157 rfl (Gives.binop .add 59 59 (.tmp 153) (.tmp 156) rfl (.int .u64 ((M.a % 2251799813685248 : Nat) : Int)) (.int .u64 ((19 * (M.e / 2251799813685248) : Nat) : Int)) _ rfl rfl (fun w' => grd_add _ _ _ _ _ w') (fun w' => u64_add (M.a % 2251799813685248) (19 * (M.e / 2251799813685248)) (by omega) w')) ?_
  refine .s 158 rfl (Gives.l 141 (.tmp 12) (g1) (fun w' h => hg1.belowAll h) Tryz.underlying141 (wd_info _)) ?_
  refine .s 159 rfl (Gives.c (args := [.agg (Wd (M.b)).toArray]) rfl Tryz.func100 (fun w' h => limb_n _ w')) ?_
  refine .s 160 rfl (Gives.l 141 (.tmp 11) (g0) (fun w' h => hg0.belowAll h) Tryz.underlying141 (wd_info _)) ?_
  refine .s 161 rfl (Gives.c (args := [.agg (Wd (M.a)).toArray]) rfl Tryz.func101 (fun w' h => over_n _ (by omega) w')) ?_
  refine .s 162 rfl (Gives.binop .add 59 59 (.tmp 159) (.tmp 161) rfl (.int .u64 ((M.b % 2251799813685248 : Nat) : Int)) (.int .u64 ((M.a / 2251799813685248 : Nat) : Int)) _ rfl rfl (fun w' => grd_add _ _ _ _ _ w') (fun w' => u64_add (M.b % 2251799813685248) (M.a / 2251799813685248) (by omega) w')) ?_
  refine .s 163 rfl (Gives.l 141 (.tmp 13) (g2) (fun w' h => hg2.belowAll h) Tryz.underlying141 (wd_info _)) ?_
  refine .s 164 rfl (Gives.c (args := [.agg (Wd (M.c)).toArray]) rfl Tryz.func100 (fun w' h => limb_n _ w')) ?_
  refine .s 165 rfl (Gives.l 141 (.tmp 12) (g1) (fun w' h => hg1.belowAll h) Tryz.underlying141 (wd_info _)) ?_
  refine .s 166 rfl (Gives.c (args := [.agg (Wd (M.b)).toArray]) rfl Tryz.func101 (fun w' h => over_n _ (by omega) w')) ?_
  refine .s 167 rfl (Gives.binop .add 59 59 (.tmp 164) (.tmp 166) rfl (.int .u64 ((M.c % 2251799813685248 : Nat) : Int)) (.int .u64 ((M.b / 2251799813685248 : Nat) : Int)) _ rfl rfl (fun w' => grd_add _ _ _ _ _ w') (fun w' => u64_add (M.c % 2251799813685248) (M.b / 2251799813685248) (by omega) w')) ?_
  refine .s 168 rfl (Gives.l 141 (.tmp 14) (g3) (fun w' h => hg3.belowAll h) Tryz.underlying141 (wd_info _)) ?_
  refine .s 169 rfl (Gives.c (args := [.agg (Wd (M.d)).toArray]) rfl Tryz.func100 (fun w' h => limb_n _ w')) ?_
  refine .s 170 rfl (Gives.l 141 (.tmp 13) (g2) (fun w' h => hg2.belowAll h) Tryz.underlying141 (wd_info _)) ?_
  refine .s 171 rfl (Gives.c (args := [.agg (Wd (M.c)).toArray]) rfl Tryz.func101 (fun w' h => over_n _ (by omega) w')) ?_
  refine .s 172 rfl (Gives.binop .add 59 59 (.tmp 169) (.tmp 171) rfl (.int .u64 ((M.d % 2251799813685248 : Nat) : Int)) (.int .u64 ((M.c / 2251799813685248 : Nat) : Int)) _ rfl rfl (fun w' => grd_add _ _ _ _ _ w') (fun w' => u64_add (M.d % 2251799813685248) (M.c / 2251799813685248) (by omega) w')) ?_
  refine .s 173 rfl (Gives.l 141 (.tmp 15) (g4) (fun w' h => hg4.belowAll h) Tryz.underlying141 (wd_info _)) ?_
  refine .s 174 rfl (Gives.c (args := [.agg (Wd (M.e)).toArray]) rfl Tryz.func100 (fun w' h => limb_n _ w')) ?_
  refine .s 175 rfl (Gives.l 141 (.tmp 14) (g3) (fun w' h => hg3.belowAll h) Tryz.underlying141 (wd_info _)) ?_
  refine .s 176 rfl (Gives.c (args := [.agg (Wd (M.d)).toArray]) rfl Tryz.func101 (fun w' h => over_n _ (by omega) w')) ?_
  refine .s 177 rfl (Gives.binop .add 59 59 (.tmp 174) (.tmp 176) rfl (.int .u64 ((M.e % 2251799813685248 : Nat) : Int)) (.int .u64 ((M.d / 2251799813685248 : Nat) : Int)) _ rfl rfl (fun w' => grd_add _ _ _ _ _ w') (fun w' => u64_add (M.e % 2251799813685248) (M.d / 2251799813685248) (by omega) w')) ?_
  refine .s 178 rfl (Gives.build5 60 (.tmp 157) (.tmp 162) (.tmp 167) (.tmp 172) (.tmp 177) rfl (.int .u64 ((M.a % 2251799813685248 + 19 * (M.e / 2251799813685248) : Nat) : Int)) (.int .u64 ((M.b % 2251799813685248 + M.a / 2251799813685248 : Nat) : Int)) (.int .u64 ((M.c % 2251799813685248 + M.b / 2251799813685248 : Nat) : Int)) (.int .u64 ((M.d % 2251799813685248 + M.c / 2251799813685248 : Nat) : Int)) (.int .u64 ((M.e % 2251799813685248 + M.d / 2251799813685248 : Nat) : Int)) _ rfl rfl rfl rfl rfl (fun w' => l5_build _ _ _ _ _ w')) ?_
  refine .s 179 rfl (Gives.c (args := [.agg (L5 (M.a % 2251799813685248 + 19 * (M.e / 2251799813685248)) (M.b % 2251799813685248 + M.a / 2251799813685248) (M.c % 2251799813685248 + M.b / 2251799813685248) (M.d % 2251799813685248 + M.c / 2251799813685248) (M.e % 2251799813685248 + M.d / 2251799813685248)).toArray]) rfl Tryz.func93 (fun w' h => hlist ▸ HCR.out w')) ?_
  refine .s 180 rfl (Gives.build1 62 (.tmp 179) rfl (.agg (EL (crL (crL M))).toArray) (.agg (EL (crL (crL M))).toArray) rfl (fun w' => el_build _ w')) ?_
  exact .nil
 case hk8 => kernel_rfl
 case e5 => rfl
 case e6 => rfl
 case h8 =>
 intro W8 hb
 have hgot := setRow_heap W8 (w.heap.size + 1 + 1) _ (EL (crL (crL M))).toArray _ _ (HR14.out.belowAll hb)
 go_wp2_with fail
 refine bodyPost_ret (results_cell_row (by rfl) _ _ (w.heap.size + 1 + 1) _ _ _ _ (by rfl) hgot Tryz.underlying62 rfl (el_info _)) rfl ?_
 exact ⟨by rw [hM], below_setRow (HBW14.out.trans (hb.mono HBW14.out.size)) (by omega) _⟩
def oneL : Lm := ⟨1, 0, 0, 0, 0⟩
theorem oneL_ok : oneL.ok := by constructor <;> decide
theorem nu_oneL : nu oneL = 1 := by decide +kernel
def pwS (x : Lm) (N : Nat) (o : Lm) : Nat → Lm
 | 0 => o
 | k + 1 => if N / 2 ^ (255 - k) % 2 = 1 then mulL (mulL (pwS x N o k) (pwS x N o k)) x else mulL (pwS x N o k) (pwS x N o k)
theorem pwS_ok {x o : Lm} (N : Nat) (hx : x.ok) (ho : o.ok) : ∀ k, (pwS x N o k).ok
 | 0 => ho
 | k + 1 => by
  have ih := pwS_ok N hx ho k
  unfold pwS
  split
  ·exact mulL_ok (mulL_ok ih ih) hx
  ·exact mulL_ok ih ih
def powL (x : Lm) (N : Nat) : Lm := pwS x N oneL 256
theorem powL_ok {x : Lm} (hx : x.ok) (N : Nat) : (powL x N).ok := pwS_ok N hx oneL_ok 256
theorem nu_pwS (x : Lm) (N : Nat) (hN : N < 2 ^ 256) : ∀ k, k ≤ 256 → nu (pwS x N oneL k) = nu x ^ (N / 2 ^ (256 - k)) % 57896044618658097711785492504343953926634992332820282019728792003956564819949
 | 0, _ => by
  have h : N / 2 ^ (256 - 0) = 0 := Nat.div_eq_of_lt hN
  rw [h]
  exact nu_oneL
 | k + 1, hk => by
  have ih := nu_pwS x N hN k (by omega)
  have e : 256 - k = (255 - k) + 1 := by omega
  have e1 : 256 - (k + 1) = 255 - k := by omega
  obtain ⟨M, hM⟩ : ∃ M, N / 2 ^ (255 - k) = M := ⟨_, rfl⟩
  have h2 : N / 2 ^ (256 - k) = M / 2 := by rw [e, Nat.pow_succ, ← Nat.div_div_eq_div_mul, hM]
  rw [e1, hM]
  rw [h2] at ih
  have hsq : nu (mulL (pwS x N oneL k) (pwS x N oneL k)) = nu x ^ (M / 2 + M / 2) % 57896044618658097711785492504343953926634992332820282019728792003956564819949 := by
   rw [nu_mulL, ih, ← Nat.mul_mod, ← Nat.pow_add]
  show nu (if N / 2 ^ (255 - k) % 2 = 1 then mulL (mulL (pwS x N oneL k) (pwS x N oneL k)) x else mulL (pwS x N oneL k) (pwS x N oneL k)) = _
  rw [hM]
  by_cases hb : M % 2 = 1
  ·rw [if_pos hb, nu_mulL, hsq]
   have e3 : M = M / 2 + M / 2 + 1 := by omega
   conv => rhs; rw [e3, Nat.pow_succ]
   rw [Nat.mod_mul_mod]
  ·rw [if_neg hb, hsq]
   have e3 : M = M / 2 + M / 2 := by omega
   conv => rhs; rw [e3]
theorem nu_powL (x : Lm) {N : Nat} (hN : N < 2 ^ 256) : nu (powL x N) = nu x ^ N % 57896044618658097711785492504343953926634992332820282019728792003956564819949 := by
 have h := nu_pwS x N hN 256 (Nat.le_refl _)
 rw [Nat.sub_self, Nat.pow_zero, Nat.div_one] at h
 exact h
def eInv : Nat := 57896044618658097711785492504343953926634992332820282019728792003956564819947
def eRt : Nat := 7237005577332262213973186563042994240829374041602535252466099000494570602493
theorem eInv_lt : eInv < 2 ^ 256 := by decide
theorem eRt_lt : eRt < 2 ^ 256 := by decide
def invL (x : Lm) : Lm := powL x eInv
theorem invL_ok {x : Lm} (hx : x.ok) : (invL x).ok := powL_ok hx _
theorem nu_invL (x : Lm) : nu (invL x) = nu x ^ eInv % 57896044618658097711785492504343953926634992332820282019728792003956564819949 := nu_powL x eInv_lt
def v3L (v : Lm) : Lm := mulL (mulL v v) v
def v7L (v : Lm) : Lm := mulL (mulL (v3L v) (v3L v)) v
def candL (u v : Lm) : Lm := mulL (mulL u (v3L v)) (powL (mulL u (v7L v)) eRt)
theorem v3L_ok {v : Lm} (h : v.ok) : (v3L v).ok := mulL_ok (mulL_ok h h) h
theorem v7L_ok {v : Lm} (h : v.ok) : (v7L v).ok := mulL_ok (mulL_ok (v3L_ok h) (v3L_ok h)) h
theorem candL_ok {u v : Lm} (hu : u.ok) (hv : v.ok) : (candL u v).ok := mulL_ok (mulL_ok hu (v3L_ok hv)) (powL_ok (mulL_ok hu (v7L_ok hv)) _)
def fitB (r u v : Lm) : Bool := decide (nu (mulL (mulL r r) v) = nu u)
def rtL : Lm := ⟨1718705420411056, 234908883556509, 2233514472574048, 2117202627021982, 765476049583133⟩
theorem rtL_ok : rtL.ok := by constructor <;> decide
theorem nu_rtL : nu rtL = 19681161376707505956807079304988542015446066515923890162744021073123829784752 := by decide +kernel
def root1 (u v : Lm) : Lm := if fitB (candL u v) u v then candL u v else mulL (candL u v) rtL
theorem root1_ok {u v : Lm} (hu : u.ok) (hv : v.ok) : (root1 u v).ok := by
 unfold root1
 split
 ·exact candL_ok hu hv
 ·exact mulL_ok (candL_ok hu hv) rtL_ok
def rootOk (u v : Lm) : Bool := !(decide (nu v = 0)) && fitB (root1 u v) u v
def rootL (u v : Lm) : Lm := if rootOk u v then (if nu (root1 u v) % 2 = 1 then negL (root1 u v) else root1 u v) else zeL
theorem rootL_ok {u v : Lm} (hu : u.ok) (hv : v.ok) : (rootL u v).ok := by
 unfold rootL
 split
 ·split
  ·exact negL_ok _
  ·exact root1_ok hu hv
 ·exact zeL_ok
def exF (lo k j : Nat) : Nat := if j = 0 then lo else if j < k then 255 else 0
theorem exF_set (lo : Nat) {k : Nat} (h0 : 0 < k) (hk : k < 32) : (Tabs .u8 (exF lo k) 32).set k (.int .u8 ((255 : Nat) : Int)) = Tabs .u8 (exF lo (k + 1)) 32 := by
 refine List.ext_getElem? fun j => ?_
 by_cases hj : j < 32
 ·rw [List.getElem?_set, Tabs_get _ _ _ hj, Tabs_get _ _ _ hj]
  unfold exF
  by_cases e : k = j
  ·subst e; rw [if_pos rfl, if_pos (by rw [Tabs_length]; exact hk), if_neg (by omega), if_pos (by omega)]
  ·rw [if_neg e]
   by_cases h1 : j = 0
   ·rw [if_pos h1, if_pos h1]
   ·rw [if_neg h1, if_neg h1]
    by_cases h2 : j < k
    ·rw [if_pos h2, if_pos (by omega)]
    ·rw [if_neg h2, if_neg (by omega)]
 ·rw [List.getElem?_eq_none (by rw [List.length_set, Tabs_length]; omega), List.getElem?_eq_none (by rw [Tabs_length]; omega)]
theorem exF_end (lo hi E : Nat) (h : ∀ j, j < 32 → (if j = 31 then hi else exF lo 31 j) = byt E j) : (Tabs .u8 (exF lo 31) 32).set 31 (.int .u8 ((hi : Nat) : Int)) = By E 32 := by
 refine By_ext E 32 (by rw [List.length_set, Tabs_length]) fun j hj => ?_
 rw [List.getElem?_set, ← h j hj]
 by_cases e : 31 = j
 ·subst e; rw [if_pos rfl, if_pos (by rw [Tabs_length]; decide), if_pos rfl]
 ·rw [if_neg e, if_neg (fun x => e x.symm), Tabs_get _ _ _ hj]
theorem ex_build (lo : Nat) (w : World) : (Instr.build 22 #[(0, .int .u8 (lo : Int))]).run Tryz.prog w = .ok (.agg (Tabs .u8 (exF lo 1) 32).toArray) w := run_build w 22 _ _ (by kernel_rfl)
theorem tb_info (f : Nat → Nat) : (Tryz.prog.info? 22).map (·.size) = some (Tabs .u8 f 32).toArray.size := by rw [List.size_toArray, Tabs_length]; kernel_rfl
set_option maxHeartbeats 1600000 in
theorem exp_any (lo hi E : Nat) (h : ∀ j, j < 32 → (if j = 31 then hi else exF lo 31 j) = byt E j) (w : World) :
  Calls Tryz.prog 98 #[.int .u8 (lo : Int), .int .u8 (hi : Int)] w fun e w' => e = .returned (.agg (By E 32).toArray) ∧ Below w.heap.size w w' := by
 have HEND := yH (exF_end lo hi E h)
 have HSB := yH by_info
 have HTB := yH tb_info
 have HBD := yH (ex_build lo)
 have hz0 := Row.new1 w (.cells (List.replicate 32 (.int .u8 0)).toArray 22) (List.replicate 32 (.int .u8 0)) 22
 have hO : (List.replicate 32 (Value.int .u8 0)).toArray.size = (Tabs .u8 (exF lo 1) 32).toArray.size := by rw [List.size_toArray, List.size_toArray, Tabs_length, List.length_replicate]
 have HZ0 := yH hz0
 have HO := yH hO
 clear h hz0 hO
 go_enter Tryz.func98, Tryz.ntmps98
 go_wp2_with (first
  | (refine wpList_build1 rfl 22 (.tmp 7) rfl (.int .u8 (lo : Int)) (.agg (Tabs .u8 (exF lo 1) 32).toArray) rfl (HBD.out _) ?_)
  | (refine wpList_store_row rfl 22 (.tmp 5) (.tmp 8) rfl (w.heap.size + 1) _ rfl rfl 22 _ HZ0.out (HTB.out _) HO.out (Tabs_one _ _ _) ?_))
 have hrow0 := HZ0.out.setRow (Tabs .u8 (exF lo 1) 32)
 have hres0 : Row (((w.alloc (.cells (List.replicate 32 (.int .u8 0)).toArray 22)).alloc (.cells (List.replicate 32 (.int .u8 0)).toArray 22)).setRow (w.heap.size + 1) (Tabs .u8 (exF lo 1) 32).toArray) w.heap.size 22 (List.replicate 32 (.int .u8 0)) :=
  ((Row.new w (List.replicate 32 (.int .u8 0)) 22).alloc _).setRowOther (by omega) _
 have hb0 := below_setRow (g := w.heap.size + 1) (Below.alloc2 w (.cells (List.replicate 32 (.int .u8 0)).toArray 22) (.cells (List.replicate 32 (.int .u8 0)).toArray 22)) (by omega) (Tabs .u8 (exF lo 1) 32).toArray
 have HROW0 := yH hrow0
 have HRES0 := yH hres0
 have HB0 := yH hb0
 clear hrow0 hres0 hb0
 go_loopw [6] (fun i wr => ∃ k : Nat, 1 ≤ k ∧ k ≤ 31 ∧ i = .int .i64 k ∧ Row wr (w.heap.size + 1) 22 (Tabs .u8 (exF lo k) 32) ∧ Row wr w.heap.size 22 (List.replicate 32 (.int .u8 0)) ∧ Below w.heap.size w wr) (fun i _ => 31 - (intOf i).toNat)
 case atStart => exact ⟨1, Nat.le_refl _, by decide, rfl, HROW0.out, HRES0.out, HB0.out⟩
 case round =>
  obtain ⟨k, hk1, hkn, rfl, hrow, hres, hbe⟩ := hrel
  by_cases hlt : k < 31
  ·have hold := hrow.cell (Tabs_get .u8 (exF lo k) 32 (j := k) (by omega))
   have hfree := hrow.free k
   have hset := hrow.set k (.int .u8 ((255 : Nat) : Int))
   rw [exF_set lo (by omega) (by omega)] at hset
   have hres2 := hres.setCell (p := ⟨w.heap.size + 1, k, none⟩) (by show _ ≠ w.heap.size + 1; omega) (.int .u8 ((255 : Nat) : Int))
   have hb2 := hbe.setCell (p := ⟨w.heap.size + 1, k, none⟩) (by simp) (.int .u8 ((255 : Nat) : Int))
   generalize exF lo k k = old at *
   have b0 : (0 : Int) ≤ (k : Int) := by omega
   have b1 : (k : Int) < 31 := by omega
   have HSET := yH hset
   have HRES2 := yH hres2
   have HB2 := yH hb2
   clear hrow hres hbe hset hres2 hb2
   go_wp2_with fail
   go_roundw
   case rel => exact ⟨k + 1, by omega, by omega, by go_num, HSET.out, HRES2.out, HB2.out⟩
   case measure => simp [intOf]; omega
  ·obtain rfl : k = 31 := by omega
   have hold := hrow.cell (Tabs_get .u8 (exF lo 31) 32 (j := 31) (by omega))
   have hfree := hrow.free 31
   have hset := hrow.set 31 (.int .u8 ((hi : Nat) : Int))
   rw [HEND.out] at hset
   have hres2 := hres.setCell (p := ⟨w.heap.size + 1, 31, none⟩) (by show _ ≠ w.heap.size + 1; omega) (.int .u8 ((hi : Nat) : Int))
   have hb2 := hbe.setCell (p := ⟨w.heap.size + 1, 31, none⟩) (by simp) (.int .u8 ((hi : Nat) : Int))
   have hO2 : (List.replicate 32 (Value.int .u8 0)).toArray.size = (By E 32).toArray.size := by rw [List.size_toArray, List.size_toArray, By_length, List.length_replicate]
   generalize exF lo 31 31 = old at *
   have HSET := yH hset
   have HRES2 := yH hres2
   have HB2 := yH hb2
   have HO2 := yH hO2
   clear hrow hres hbe hset hres2 hb2 hO2
   go_wp2_with (first
    | (refine wpList_load_row rfl 22 (.tmp 5) rfl (w.heap.size + 1) rfl 22 _ (0, 0) _ HSET.out Tryz.underlying22 rfl (HSB.out _) ?_)
    | (refine wpList_store_row rfl 22 (.tmp 4) (.tmp 17) rfl w.heap.size _ rfl rfl 22 _ HRES2.out (HSB.out _) HO2.out (By_one _ _) ?_))
   have hgot := setRow_heap (wr.setCell ⟨w.heap.size + 1, 31, none⟩ (.int .u8 ((hi : Nat) : Int))) w.heap.size _ (By E 32).toArray _ _ HRES2.out
   refine bodyPost_ret (results_cell_row (by rfl) _ _ w.heap.size _ _ _ _ (by rfl) hgot Tryz.underlying22 rfl (HSB.out _)) rfl ?_
   exact ⟨rfl, below_setRow HB2.out (Nat.le_refl _) _⟩
theorem step_any (b : Bool) {x o : Lm} (hx : x.ok) (ho : o.ok) (g1 g2 : Nat) (w : World) (h1 : Row w g1 62 (EL o)) (h2 : Row w g2 62 (EL x)) (hne : g1 ≠ g2) :
  Calls Tryz.prog 123 #[.bool b, .pointer (some ⟨g1, 0, none⟩), .pointer (some ⟨g2, 0, none⟩)] w fun e w' => e = .returned (.tuple #[]) ∧ Row w' g1 62 (EL (if b then mulL (mulL o o) x else mulL o o)) ∧ Only (fun k => k = g1) w w' := by
 have HM1 := yH (mul_any ho ho)
 have HM2 := yH (mul_any (mulL_ok ho ho) hx)
 have HS4 := yH el_info
 have H1 := yH h1
 have H2 := yH h2
 clear h1 h2
 go_enter Tryz.func123, Tryz.ntmps123
 go_wp2_with (refine wpList_load_row rfl 62 (.tmp 1) rfl g1 rfl 62 _ (0, 0) _ H1.out Tryz.underlying62 rfl (HS4.out _) ?_)
 refine (HM1.out _).mono ?_
 rintro e w1 ⟨rfl, hb1⟩
 have hr1 := H1.out.belowAll hb1
 have hs1 := hr1.setRow (EL (mulL o o))
 have hx1 := (H2.out.belowAll hb1).setRowOther (Ne.symm hne) (EL (mulL o o)).toArray
 have ho1 : Only (fun k => k = g1) w (w1.setRow g1 (EL (mulL o o)).toArray) := by
  have hz := hb1.size
  have hsz : (w1.setRow g1 (EL (mulL o o)).toArray).heap.size = w1.heap.size := by simp
  exact ⟨hb1.os, hb1.tape, hb1.output, by rw [hsz]; exact hz, fun k hk hn => (setRow_other w1 g1 k _ (fun e => hn e)).trans (hb1.block k hk)⟩
 have HR1 := yH hr1
 have HS1 := yH hs1
 have HX1 := yH hx1
 have HO1 := yH ho1
 clear hb1 hr1 hs1 hx1 ho1
 cases b with
 | false =>
  go_wp2_with (refine wpList_store_row rfl 62 (.tmp 1) (.tmp 6) rfl g1 _ rfl rfl 62 _ HR1.out (HS4.out _) (EL_sz _ _) (EL_one _) ?_)
  go_end0
  exact ⟨rfl, HS1.out, HO1.out⟩
 | true =>
  go_wp2_with (first
   | (refine wpList_store_row rfl 62 (.tmp 1) (.tmp 6) rfl g1 _ rfl rfl 62 _ HR1.out (HS4.out _) (EL_sz _ _) (EL_one _) ?_)
   | (refine wpList_load_row rfl 62 (.tmp 1) rfl g1 rfl 62 _ (0, 0) _ HS1.out Tryz.underlying62 rfl (HS4.out _) ?_)
   | (refine wpList_load_row rfl 62 (.tmp 2) rfl g2 rfl 62 _ (0, 0) _ HX1.out Tryz.underlying62 rfl (HS4.out _) ?_))
  refine (HM2.out _).mono ?_
  rintro e w2 ⟨rfl, hb2⟩
  have HR2 := yH (HS1.out.belowAll hb2)
  have HO2 := yH (HO1.out.trans (T := fun _ => False) ⟨hb2.os, hb2.tape, hb2.output, hb2.size, fun k hk _ => hb2.block k hk⟩ (fun _ _ f => f.elim))
  clear hb2
  go_wp2_with (refine wpList_store_row rfl 62 (.tmp 1) (.tmp 10) rfl g1 _ rfl rfl 62 _ HR2.out (HS4.out _) (EL_sz _ _) (EL_one _) ?_)
  go_end0
  refine ⟨rfl, HR2.out.setRow _, ?_⟩
  have ho := HO2.out
  have hsz : (w2.setRow g1 (EL (mulL (mulL o o) x)).toArray).heap.size = w2.heap.size := by simp
  exact ⟨ho.os, ho.tape, ho.output, by rw [hsz]; exact ho.size, fun k hk hn => (setRow_other w2 g1 k _ (fun e => hn e)).trans (ho.block k hk hn)⟩
theorem byt_bit (N i : Nat) : byt N (i / 8) / 2 ^ (i % 8) % 2 = N / 2 ^ i % 2 := by
 unfold byt
 have e : (256 : Nat) = 2 ^ (i % 8) * (2 * 2 ^ (7 - i % 8)) := by
  rw [show (2 : Nat) * 2 ^ (7 - i % 8) = 2 ^ (1 + (7 - i % 8)) by rw [Nat.pow_add], ← Nat.pow_add, show i % 8 + (1 + (7 - i % 8)) = 8 by omega]
 rw [e, Nat.mod_mul_right_div_self, Nat.mod_mul_right_mod, Nat.div_div_eq_div_mul, ← Nat.pow_add, show 8 * (i / 8) + i % 8 = i by omega]
set_option maxHeartbeats 3200000 in
theorem down_any (N : Nat) {x o : Lm} (hx : x.ok) (ho : o.ok) (g1 g2 : Nat) (w : World) (h1 : Row w g1 62 (EL o)) (h2 : Row w g2 62 (EL x)) (hne : g1 ≠ g2) :
  Calls Tryz.prog 122 #[.agg (By N 32).toArray, .func (.func 123) #[] #[.pointer (some ⟨g1, 0, none⟩), .pointer (some ⟨g2, 0, none⟩)]] w fun e w' => e = .returned (.tuple #[]) ∧ Row w' g1 62 (EL (pwS x N o 256)) ∧ Only (fun k => k = g1) w w' := by
 have hl1 := h1.lt
 have hl2 := h2.lt
 have HOK := yH (pwS_ok N hx ho)
 have H1 := yH h1
 have H2 := yH h2
 clear h1 h2
 go_enter Tryz.func122, Tryz.ntmps122
 go_wp2_with fail
 go_loopw [4] (fun i wr => ∃ k : Nat, k ≤ 256 ∧ i = .int .i64 (255 - (k : Int)) ∧ Row wr w.heap.size 22 (By N 32) ∧ Row wr g1 62 (EL (pwS x N o k)) ∧ Row wr g2 62 (EL x) ∧ Only (fun k => k = g1) w wr) (fun i _ => (intOf i + 1).toNat)
 case atStart => exact ⟨0, Nat.zero_le _, rfl, Row.new w _ _, H1.out.alloc _, H2.out.alloc _, (Only.refl _ w).alloc _⟩
 case round =>
  obtain ⟨k, hkn, rfl, hb, h1, h2, ho1⟩ := hrel
  by_cases hlt : k < 256
  ·obtain ⟨i, hi⟩ : ∃ i : Nat, i = 255 - k := ⟨_, rfl⟩
   have hii : (255 - (k : Int)) = (i : Int) := by omega
   rw [hii]
   have hi8 : i / 8 < 32 := by omega
   have hcb := hb.cell (By_get N 32 hi8)
   have hbit := byt_bit N i
   have hnext : pwS x N o (k + 1) = if decide (N / 2 ^ i % 2 = 1) then mulL (mulL (pwS x N o k) (pwS x N o k)) x else mulL (pwS x N o k) (pwS x N o k) := by
    rw [hi]
    show (if N / 2 ^ (255 - k) % 2 = 1 then _ else _) = _
    simp only [decide_eq_true_eq]
   have hst := fun b wx hr1 hr2 => step_any b hx (HOK.out k) g1 g2 wx hr1 hr2 hne
   have lb := byt_lt N (i / 8)
   have hsh : ((byt N (i / 8) : Nat) : Int) / 2 ^ (i % 8) = ((byt N (i / 8) / 2 ^ (i % 8) : Nat) : Int) := by simp
   have hsl : byt N (i / 8) / 2 ^ (i % 8) < 256 := Nat.lt_of_le_of_lt (Nat.div_le_self _ _) lb
   have hand := and_one (byt N (i / 8) / 2 ^ (i % 8)) hsl
   rw [hbit] at hand
   have heq : (((N / 2 ^ i % 2 : Nat) : Int) == 1) = decide (N / 2 ^ i % 2 = 1) := by
    rw [Bool.eq_iff_iff, beq_iff_eq, decide_eq_true_iff]
    omega
   have hd : Int.tdiv (i : Int) 8 = ((i / 8 : Nat) : Int) := by rw [Int.tdiv_eq_ediv_of_nonneg (by omega)]; omega
   have hm : Int.tmod (i : Int) 8 = ((i % 8 : Nat) : Int) := by rw [Int.tmod_eq_emod_of_nonneg (by omega)]; omega
   have hd' : (i : Int) / 8 = ((i / 8 : Nat) : Int) := by omega
   have hm' : (i : Int) % 8 = ((i % 8 : Nat) : Int) := by omega
   have him : i % 8 < 8 := Nat.mod_lt _ (by decide)
   generalize decide (N / 2 ^ i % 2 = 1) = bb at *
   generalize N / 2 ^ i % 2 = bt at *
   generalize byt N (i / 8) = x8 at *
   generalize i / 8 = q at *
   generalize i % 8 = r at *
   have b0 : (0 : Int) ≤ (i : Int) := by omega
   have b2 : (0 : Int) ≤ (q : Int) := by omega
   have b3 : (q : Int) < 32 := by omega
   have b4 : (0 : Int) ≤ (r : Int) := by omega
   have b5 : (r : Int) < 64 := by omega
   have b6 : (i : Int) ≤ 255 := by omega
   have hw1 : IntKind.i64.wrap ((q : Nat) : Int) = (q : Int) := IntWalk.i64_in _ (by omega)
   have HII := yH hii
   have HI := yH hi
   have HB := yH hb
   have HR1 := yH h1
   have HR2 := yH h2
   have HO1 := yH ho1
   have HST := yH hst
   have HNX := yH hnext
   have HSH := yH hsh
   have HAND := yH hand
   have HEQ := yH heq
   clear hii hi hb h1 h2 ho1 hst hnext hsh hand heq hbit hsl
   go_wp2_with fail
   rw [HSH.out, HAND.out, HEQ.out]
   refine (HST.out bb wr HR1.out HR2.out).mono ?_
   rintro e w1 ⟨rfl, hr1, ho2⟩
   have hb1 := HB.out.only ho2 (by omega)
   have hx1 := HR2.out.only ho2 (Ne.symm hne)
   have ho3 := HO1.out.trans ho2 (fun k _ e => e)
   rw [← HNX.out] at hr1
   have HB1 := yH hb1
   have HX1 := yH hx1
   have HO3 := yH ho3
   have HRR := yH hr1
   clear hb1 hx1 ho3 hr1 ho2 hd hm hd' hm' hw1 hcb
   go_wp2_with fail
   go_roundw
   case rel =>
    refine ⟨k + 1, by omega, ?_, HB1.out, HRR.out, HX1.out, HO3.out⟩
    congr 1
    have := HII.out
    omega
   case measure => simp [intOf] <;> omega
  ·obtain rfl : k = 256 := by omega
   rw [show (255 - ((256 : Nat) : Int)) = -1 by decide]
   have HR1 := yH h1
   have HO1 := yH ho1
   clear h1 ho1 h2 hb
   go_wp2_with fail
   go_end0
   exact ⟨rfl, HR1.out, HO1.out⟩
set_option maxHeartbeats 1600000 in
theorem pow_any (N : Nat) {x : Lm} (hx : x.ok) (w : World) :
  Calls Tryz.prog 97 #[.agg (EL x).toArray, .agg (By N 32).toArray] w fun e w' => e = .returned (.agg (EL (powL x N)).toArray) ∧ Below w.heap.size w w' := by
 unfold powL
 have HS4 := yH el_info
 have HSB := yH by_info
 have HSM := yH (small_any 1 (by decide))
 have HDN := yH (fun g1 g2 wx h1 h2 hne => down_any N hx oneL_ok g1 g2 wx h1 h2 hne)
 have hr1 := ((Row.new w (EL x) 62).alloc (.cells (By N 32).toArray 22)).alloc (.cells (EL zeL).toArray 62)
 have hr2 := (Row.new1 w (.cells (EL x).toArray 62) (By N 32) 22).alloc (.cells (EL zeL).toArray 62)
 have hr3 := Row.new2 w (.cells (EL x).toArray 62) (.cells (By N 32).toArray 22) (EL zeL) 62
 have hb0 := Below.alloc3 w (.cells (EL x).toArray 62) (.cells (By N 32).toArray 22) (.cells (EL zeL).toArray 62)
 have HR1 := yH hr1
 have HR2 := yH hr2
 have HR3 := yH hr3
 have HB0 := yH hb0
 clear hr1 hr2 hr3 hb0
 go_enter Tryz.func97, Tryz.ntmps97
 go_wp2_with fail
 refine (HSM.out _).mono ?_
 rintro e w1 ⟨rfl, hb1⟩
 rw [show (#[Value.int .u64 0, .int .u64 0, .int .u64 0, .int .u64 0, .int .u64 0] : Array Value) = (EL zeL).toArray from rfl] at hb1
 have hs0 : (((w.alloc (.cells (EL x).toArray 62)).alloc (.cells (By N 32).toArray 22)).alloc (.cells (EL zeL).toArray 62)).heap.size = w.heap.size + 1 + 1 + 1 := by simp
 have hsz := hb1.size
 rw [hs0] at hsz
 have hx1 := HR1.out.belowAll hb1
 have hn1 := HR2.out.belowAll hb1
 have hz1 := HR3.out.belowAll hb1
 have hw1 := HB0.out.trans (hb1.mono HB0.out.size)
 have hv0 := Row.new w1 (EL zeL) 62
 have hv1 := hv0.setRow (EL oneL)
 have hx2 := (hx1.alloc (.cells (EL zeL).toArray 62)).setRowOther (k := w1.heap.size) (by omega) (EL oneL).toArray
 have hn2 := (hn1.alloc (.cells (EL zeL).toArray 62)).setRowOther (k := w1.heap.size) (by omega) (EL oneL).toArray
 have hz2 := (hz1.alloc (.cells (EL zeL).toArray 62)).setRowOther (k := w1.heap.size) (by omega) (EL oneL).toArray
 have hw2 := below_setRow (g := w1.heap.size) (hw1.alloc (by omega) (.cells (EL zeL).toArray 62)) (by omega) (EL oneL).toArray
 have HV0 := yH hv0
 have HV1 := yH hv1
 have HX2 := yH hx2
 have HN2 := yH hn2
 have HZ2 := yH hz2
 have HW2 := yH hw2
 have HSZ := yH hsz
 clear hb1 hs0 hsz hx1 hn1 hz1 hw1 hv0 hv1 hx2 hn2 hz2 hw2
 rw [show (L5 1 0 0 0 0).toArray = (EL oneL).toArray from rfl]
 go_wp2_with (first
  | (refine wpList_store_row rfl 62 (.tmp 5) (.tmp 6) rfl w1.heap.size _ rfl rfl 62 _ HV0.out (HS4.out _) (EL_sz _ _) (EL_one _) ?_)
  | (refine wpList_load_row rfl 22 (.tmp 3) rfl (w.heap.size + 1) rfl 22 _ (0, 0) _ HN2.out Tryz.underlying22 rfl (HSB.out _) ?_))
 refine (HDN.out w1.heap.size w.heap.size _ HV1.out HX2.out (by have := HSZ.out; omega)).mono ?_
 rintro e w3 ⟨rfl, hr, ho⟩
 have hz3 := HZ2.out.only ho (by have := HSZ.out; omega)
 have hw3 := HW2.out.trans (ho.below (B := w.heap.size) HW2.out.size (fun k e => by have := HSZ.out; omega))
 have HR := yH hr
 have HZ3 := yH hz3
 have HW3 := yH hw3
 clear hr ho hz3 hw3
 go_wp2_with (first
  | (refine wpList_load_row rfl 62 (.tmp 5) rfl w1.heap.size rfl 62 _ (0, 0) _ HR.out Tryz.underlying62 rfl (HS4.out _) ?_)
  | (refine wpList_store_row rfl 62 (.tmp 4) (.tmp 10) rfl (w.heap.size + 1 + 1) _ rfl rfl 62 _ HZ3.out (HS4.out _) (EL_sz _ _) (EL_one _) ?_))
 have hgot := setRow_heap w3 (w.heap.size + 1 + 1) _ (EL (pwS x N oneL 256)).toArray _ _ HZ3.out
 refine bodyPost_ret (results_cell_row (by rfl) _ _ (w.heap.size + 1 + 1) _ _ _ _ (by rfl) hgot Tryz.underlying62 rfl (HS4.out _)) rfl ?_
 exact ⟨rfl, below_setRow HW3.out (by omega) _⟩
theorem el_alloc (w : World) : (Instr.alloc 62 true (.tuple #[])).run Tryz.prog w = .ok (.pointer (some ⟨w.heap.size, 0, none⟩)) (w.alloc (.cells (EL zeL).toArray 62)) := by kernel_rfl
theorem el_zero (w : World) : (Instr.build 62 #[]).run Tryz.prog w = .ok (.agg (EL zeL).toArray) w := run_build w 62 _ _ (by kernel_rfl)
theorem exp_inv (w : World) : Calls Tryz.prog 98 #[.int .u8 235, .int .u8 127] w fun e w' => e = .returned (.agg (By eInv 32).toArray) ∧ Below w.heap.size w w' :=
 exp_any 235 127 eInv (by decide +kernel) w
theorem exp_rt (w : World) : Calls Tryz.prog 98 #[.int .u8 253, .int .u8 15] w fun e w' => e = .returned (.agg (By eRt 32).toArray) ∧ Below w.heap.size w w' :=
 exp_any 253 15 eRt (by decide +kernel) w
set_option maxHeartbeats 1600000 in
theorem inv_any {x : Lm} (hx : x.ok) (w : World) :
  Calls Tryz.prog 60 #[.agg (EL x).toArray] w fun e w' => e = .returned (.agg (EL (invL x)).toArray) ∧ Below w.heap.size w w' := by
 unfold invL
 have hr1 := (Row.new w (EL x) 62).alloc (.cells (EL zeL).toArray 62)
 have hr2 := Row.new1 w (.cells (EL x).toArray 62) (EL zeL) 62
 have hb0 := Below.alloc2 w (.cells (EL x).toArray 62) (.cells (EL zeL).toArray 62)
 go_enter Tryz.func60, Tryz.ntmps60
 go_wp2_with fail
 rw [show (#[Value.int .u64 0, .int .u64 0, .int .u64 0, .int .u64 0, .int .u64 0] : Array Value) = (EL zeL).toArray from rfl]
 generalize (w.alloc (.cells (EL x).toArray 62)).alloc (.cells (EL zeL).toArray 62) = W0 at *
 refine wp_flat_store (aD := ?aD1) (S := fun w' => Below W0.heap.size W0 w') (s := 3) (T := 62) (T' := 62) (g := w.heap.size + 1) (z := EL zeL) (c := EL (powL x eInv)) (x := .tmp 2) (y := .tmp 5)
  (vs := [(0, .agg (EL x).toArray), (1, .agg (By eInv 32).toArray), (2, .agg (EL (powL x eInv)).toArray)]) (by kernel_rfl) ((Below.refl _ _).drew) (fun _ _ h k => S_trans h k) ?hD1 ?hk1 rfl rfl rfl rfl ?e5 ?e6 (fun w' h => hr2.belowAll h) (el_info _) (EL_sz _ _) (EL_one _) ?h1
 case hD1 =>
  refine .s 3 rfl (Gives.l 62 (.tmp 1) (w.heap.size) (fun w' h => hr1.belowAll h) Tryz.underlying62 (el_info _)) ?_
  refine .s 4 rfl (Gives.c (args := [.int .u8 235, .int .u8 127]) rfl Tryz.func98 (fun w' h => exp_inv w')) ?_
  refine .s 5 rfl (Gives.c (args := [.agg (EL x).toArray, .agg (By eInv 32).toArray]) rfl Tryz.func97 (fun w' h => pow_any eInv hx w')) ?_
  exact .nil
 case hk1 => kernel_rfl
 case e5 => rfl
 case e6 => rfl
 case h1 =>
 intro W1 hb
 have hgot := setRow_heap W1 (w.heap.size + 1) _ (EL (powL x eInv)).toArray _ _ (hr2.belowAll hb)
 go_wp2_with fail
 refine bodyPost_ret (results_cell_row (by rfl) _ _ (w.heap.size + 1) _ _ _ _ (by rfl) hgot Tryz.underlying62 rfl (el_info _)) rfl ?_
 exact ⟨rfl, below_setRow (hb0.trans (hb.mono hb0.size)) (by omega) _⟩
set_option maxHeartbeats 3200000 in
theorem cand_any {u v : Lm} (hu : u.ok) (hv : v.ok) (w : World) :
  Calls Tryz.prog 124 #[.agg (EL u).toArray, .agg (EL v).toArray] w fun e w' => e = .returned (.agg (EL (candL u v)).toArray) ∧ Below w.heap.size w w' := by
 unfold candL v7L v3L
 have hr1 := ((Row.new w (EL u) 62).alloc (.cells (EL v).toArray 62)).alloc (.cells (EL zeL).toArray 62)
 have hr2 := (Row.new1 w (.cells (EL u).toArray 62) (EL v) 62).alloc (.cells (EL zeL).toArray 62)
 have hr3 := Row.new2 w (.cells (EL u).toArray 62) (.cells (EL v).toArray 62) (EL zeL) 62
 have hb0 := Below.alloc3 w (.cells (EL u).toArray 62) (.cells (EL v).toArray 62) (.cells (EL zeL).toArray 62)
 go_enter Tryz.func124, Tryz.ntmps124
 go_wp2_with fail
 rw [show (#[Value.int .u64 0, .int .u64 0, .int .u64 0, .int .u64 0, .int .u64 0] : Array Value) = (EL zeL).toArray from rfl]
 have hsz0 : (((w.alloc (.cells (EL u).toArray 62)).alloc (.cells (EL v).toArray 62)).alloc (.cells (EL zeL).toArray 62)).heap.size = w.heap.size + 1 + 1 + 1 := by simp
 generalize ((w.alloc (.cells (EL u).toArray 62)).alloc (.cells (EL v).toArray 62)).alloc (.cells (EL zeL).toArray 62) = W0 at *
 refine wp_flat_new_store (aD := ?aD1) (B := W0.heap.size) (S := fun w' => Below W0.heap.size W0 w') (k := 5) (s := 6) (T := 62) (z := EL zeL) (c := EL (mulL (mulL v v) v)) (x := .tmp 5) (y := .tmp 11)
  (vs := [(0, .agg (EL v).toArray), (1, .agg (EL v).toArray), (2, .agg (EL (mulL v v)).toArray), (3, .agg (EL v).toArray), (4, .agg (EL (mulL (mulL v v) v)).toArray)]) (by kernel_rfl) ((Below.refl _ _).drew) (fun _ _ h k => S_trans h k) (fun _ _ cs h hg => S_row h hg cs) (fun _ h => h.size) ?hD1 (.of rfl rfl rfl (fun w' => el_alloc w')) ?hk1 rfl rfl (some 5) rfl rfl rfl ?e5 ?e6 (el_info _) (EL_sz _ _) (EL_one _) ?h1
 case hD1 =>
  refine .s 7 rfl (Gives.l 62 (.tmp 3) (w.heap.size + 1) (fun w' h => hr2.belowAll h) Tryz.underlying62 (el_info _)) ?_
  refine .s 8 rfl (Gives.l 62 (.tmp 3) (w.heap.size + 1) (fun w' h => hr2.belowAll h) Tryz.underlying62 (el_info _)) ?_
  refine .s 9 rfl (Gives.c (args := [.agg (EL v).toArray, .agg (EL v).toArray]) rfl Tryz.func61 (fun w' h => mul_any hv hv w')) ?_
  refine .s 10 rfl (Gives.l 62 (.tmp 3) (w.heap.size + 1) (fun w' h => hr2.belowAll h) Tryz.underlying62 (el_info _)) ?_
  refine .s 11 rfl (Gives.c (args := [.agg (EL (mulL v v)).toArray, .agg (EL v).toArray]) rfl Tryz.func61 (fun w' h => mul_any (mulL_ok hv hv) hv w')) ?_
  exact .nil
 case hk1 => kernel_rfl
 case e5 => intro g; rfl
 case e6 => intro g; rfl
 case h1 =>
 intro g3 W1 hb hge hg3
 simp only [Act.put, yA, yB, yC]
 have k1 := hr1.belowAll hb
 have k2 := hr2.belowAll hb
 have k3 := hr3.belowAll hb
 have kb := hb0.trans (hb.mono hb0.size)
 have ks := hb.size
 clear hr1 hr2 hr3 hb0 hb
 go_wp2_with fail
 refine wp_flat_new_store (aD := ?aD2) (B := W1.heap.size) (S := fun w' => Below W1.heap.size W1 w') (k := 5) (s := 6) (T := 62) (z := EL zeL) (c := EL (mulL (mulL (mulL (mulL v v) v) (mulL (mulL v v) v)) v)) (x := .tmp 6) (y := .tmp 16)
  (vs := [(0, .agg (EL (mulL (mulL v v) v)).toArray), (1, .agg (EL (mulL (mulL v v) v)).toArray), (2, .agg (EL (mulL (mulL (mulL v v) v) (mulL (mulL v v) v))).toArray), (3, .agg (EL v).toArray), (4, .agg (EL (mulL (mulL (mulL (mulL v v) v) (mulL (mulL v v) v)) v)).toArray)]) (by kernel_rfl) ((Below.refl _ _).drew) (fun _ _ h k => S_trans h k) (fun _ _ cs h hg => S_row h hg cs) (fun _ h => h.size) ?hD2 (.of rfl rfl rfl (fun w' => el_alloc w')) ?hk2 rfl rfl (some 6) rfl rfl rfl ?e5 ?e6 (el_info _) (EL_sz _ _) (EL_one _) ?h2
 case hD2 =>
  refine .s 12 rfl (Gives.l 62 (.tmp 5) (g3) (fun w' h => hg3.belowAll h) Tryz.underlying62 (el_info _)) ?_
  refine .s 13 rfl (Gives.l 62 (.tmp 5) (g3) (fun w' h => hg3.belowAll h) Tryz.underlying62 (el_info _)) ?_
  refine .s 14 rfl (Gives.c (args := [.agg (EL (mulL (mulL v v) v)).toArray, .agg (EL (mulL (mulL v v) v)).toArray]) rfl Tryz.func61 (fun w' h => mul_any (mulL_ok (mulL_ok hv hv) hv) (mulL_ok (mulL_ok hv hv) hv) w')) ?_
  refine .s 15 rfl (Gives.l 62 (.tmp 3) (w.heap.size + 1) (fun w' h => k2.belowAll h) Tryz.underlying62 (el_info _)) ?_
  refine .s 16 rfl (Gives.c (args := [.agg (EL (mulL (mulL (mulL v v) v) (mulL (mulL v v) v))).toArray, .agg (EL v).toArray]) rfl Tryz.func61 (fun w' h => mul_any (mulL_ok (mulL_ok (mulL_ok hv hv) hv) (mulL_ok (mulL_ok hv hv) hv)) hv w')) ?_
  exact .nil
 case hk2 => kernel_rfl
 case e5 => intro g; rfl
 case e6 => intro g; rfl
 case h2 =>
 intro g7 W2 hb hge7 hg7
 simp only [Act.put, yA, yB, yC]
 have l1 := k1.belowAll hb
 have l2 := k2.belowAll hb
 have l3 := k3.belowAll hb
 have l4 := hg3.belowAll hb
 have lb := kb.trans (hb.mono kb.size)
 have ls := hb.size
 clear k1 k2 k3 hg3 kb hb
 go_wp2_with fail
 refine wp_flat_store (aD := ?aD3) (S := fun w' => Below W2.heap.size W2 w') (s := 9) (T := 62) (T' := 62) (g := w.heap.size + 1 + 1) (z := EL zeL) (c := EL (mulL (mulL u (mulL (mulL v v) v)) (powL (mulL u (mulL (mulL (mulL (mulL v v) v) (mulL (mulL v v) v)) v)) eRt))) (x := .tmp 4) (y := .tmp 25)
  (vs := [(0, .agg (EL u).toArray), (1, .agg (EL (mulL (mulL v v) v)).toArray), (2, .agg (EL (mulL u (mulL (mulL v v) v))).toArray), (3, .agg (EL u).toArray), (4, .agg (EL (mulL (mulL (mulL (mulL v v) v) (mulL (mulL v v) v)) v)).toArray), (5, .agg (EL (mulL u (mulL (mulL (mulL (mulL v v) v) (mulL (mulL v v) v)) v))).toArray), (6, .agg (By eRt 32).toArray), (7, .agg (EL (powL (mulL u (mulL (mulL (mulL (mulL v v) v) (mulL (mulL v v) v)) v)) eRt)).toArray), (8, .agg (EL (mulL (mulL u (mulL (mulL v v) v)) (powL (mulL u (mulL (mulL (mulL (mulL v v) v) (mulL (mulL v v) v)) v)) eRt))).toArray)]) (by kernel_rfl) ((Below.refl _ _).drew) (fun _ _ h k => S_trans h k) ?hD3 ?hk3 rfl rfl rfl rfl ?e5 ?e6 (fun w' h => l3.belowAll h) (el_info _) (EL_sz _ _) (EL_one _) ?h3
 case hD3 =>
  refine .s 17 rfl (Gives.l 62 (.tmp 2) (w.heap.size) (fun w' h => l1.belowAll h) Tryz.underlying62 (el_info _)) ?_
  refine .s 18 rfl (Gives.l 62 (.tmp 5) (g3) (fun w' h => l4.belowAll h) Tryz.underlying62 (el_info _)) ?_
  refine .s 19 rfl (Gives.c (args := [.agg (EL u).toArray, .agg (EL (mulL (mulL v v) v)).toArray]) rfl Tryz.func61 (fun w' h => mul_any hu (mulL_ok (mulL_ok hv hv) hv) w')) ?_
  refine .s 20 rfl (Gives.l 62 (.tmp 2) (w.heap.size) (fun w' h => l1.belowAll h) Tryz.underlying62 (el_info _)) ?_
  refine .s 21 rfl (Gives.l 62 (.tmp 6) (g7) (fun w' h => hg7.belowAll h) Tryz.underlying62 (el_info _)) ?_
  refine .s 22 rfl (Gives.c (args := [.agg (EL u).toArray, .agg (EL (mulL (mulL (mulL (mulL v v) v) (mulL (mulL v v) v)) v)).toArray]) rfl Tryz.func61 (fun w' h => mul_any hu (mulL_ok (mulL_ok (mulL_ok (mulL_ok hv hv) hv) (mulL_ok (mulL_ok hv hv) hv)) hv) w')) ?_
  refine .s 23 rfl (Gives.c (args := [.int .u8 253, .int .u8 15]) rfl Tryz.func98 (fun w' h => exp_rt w')) ?_
  refine .s 24 rfl (Gives.c (args := [.agg (EL (mulL u (mulL (mulL (mulL (mulL v v) v) (mulL (mulL v v) v)) v))).toArray, .agg (By eRt 32).toArray]) rfl Tryz.func97 (fun w' h => pow_any eRt (mulL_ok hu (mulL_ok (mulL_ok (mulL_ok (mulL_ok hv hv) hv) (mulL_ok (mulL_ok hv hv) hv)) hv)) w')) ?_
  refine .s 25 rfl (Gives.c (args := [.agg (EL (mulL u (mulL (mulL v v) v))).toArray, .agg (EL (powL (mulL u (mulL (mulL (mulL (mulL v v) v) (mulL (mulL v v) v)) v)) eRt)).toArray]) rfl Tryz.func61 (fun w' h => mul_any (mulL_ok hu (mulL_ok (mulL_ok hv hv) hv)) (powL_ok (mulL_ok hu (mulL_ok (mulL_ok (mulL_ok (mulL_ok hv hv) hv) (mulL_ok (mulL_ok hv hv) hv)) hv)) _) w')) ?_
  exact .nil
 case hk3 => kernel_rfl
 case e5 => rfl
 case e6 => rfl
 case h3 =>
 intro W3 hb
 have hgot := setRow_heap W3 (w.heap.size + 1 + 1) _ (EL (mulL (mulL u (mulL (mulL v v) v)) (powL (mulL u (mulL (mulL (mulL (mulL v v) v) (mulL (mulL v v) v)) v)) eRt))).toArray _ _ (l3.belowAll hb)
 go_wp2_with fail
 refine bodyPost_ret (results_cell_row (by rfl) _ _ (w.heap.size + 1 + 1) _ _ _ _ (by rfl) hgot Tryz.underlying62 rfl (el_info _)) rfl ?_
 exact ⟨rfl, below_setRow (lb.trans (hb.mono lb.size)) (by omega) _⟩
set_option maxHeartbeats 1600000 in
theorem fits_any {r u v : Lm} (hr : r.ok) (hu : u.ok) (hv : v.ok) (w : World) :
  Calls Tryz.prog 125 #[.agg (EL r).toArray, .agg (EL u).toArray, .agg (EL v).toArray] w fun e w' => e = .returned (.bool (fitB r u v)) ∧ Below w.heap.size w w' := by
 unfold fitB
 have hr1 := ((Row.new w (EL r) 62).alloc (.cells (EL u).toArray 62)).alloc (.cells (EL v).toArray 62)
 have hr2 := (Row.new1 w (.cells (EL r).toArray 62) (EL u) 62).alloc (.cells (EL v).toArray 62)
 have hr3 := Row.new2 w (.cells (EL r).toArray 62) (.cells (EL u).toArray 62) (EL v) 62
 have hb0 := Below.alloc3 w (.cells (EL r).toArray 62) (.cells (EL u).toArray 62) (.cells (EL v).toArray 62)
 go_enter Tryz.func125, Tryz.ntmps125
 go_wp2_with fail
 generalize ((w.alloc (.cells (EL r).toArray 62)).alloc (.cells (EL u).toArray 62)).alloc (.cells (EL v).toArray 62) = W0 at *
 refine wp_flat_none (aD := ?aD) (S := fun w' => Below W0.heap.size W0 w') (vs := [(0, .agg (EL r).toArray), (1, .agg (EL r).toArray), (2, .agg (EL (mulL r r)).toArray), (3, .agg (EL v).toArray), (4, .agg (EL (mulL (mulL r r) v)).toArray), (5, .agg (EL u).toArray), (6, .bool (decide (nu (mulL (mulL r r) v) = nu u))), (7, .bool (decide (nu (mulL (mulL r r) v) = nu u)))]) (by kernel_rfl) ((Below.refl _ _).drew) (fun _ _ h k => S_trans h k) ?hD ?hk ?h
 case hD =>
  refine .s 7 rfl (Gives.l 62 (.tmp 3) (w.heap.size) (fun w' h => hr1.belowAll h) Tryz.underlying62 (el_info _)) ?_
  refine .s 8 rfl (Gives.l 62 (.tmp 3) (w.heap.size) (fun w' h => hr1.belowAll h) Tryz.underlying62 (el_info _)) ?_
  refine .s 9 rfl (Gives.c (args := [.agg (EL r).toArray, .agg (EL r).toArray]) rfl Tryz.func61 (fun w' h => mul_any hr hr w')) ?_
  refine .s 10 rfl (Gives.l 62 (.tmp 5) (w.heap.size + 1 + 1) (fun w' h => hr3.belowAll h) Tryz.underlying62 (el_info _)) ?_
  refine .s 11 rfl (Gives.c (args := [.agg (EL (mulL r r)).toArray, .agg (EL v).toArray]) rfl Tryz.func61 (fun w' h => mul_any (mulL_ok hr hr) hv w')) ?_
  refine .s 12 rfl (Gives.l 62 (.tmp 4) (w.heap.size + 1) (fun w' h => hr2.belowAll h) Tryz.underlying62 (el_info _)) ?_
  refine .s 13 rfl (Gives.c (args := [.agg (EL (mulL (mulL r r) v)).toArray, .agg (EL u).toArray]) rfl Tryz.func133 (fun w' h => same_any (mulL_ok (mulL_ok hr hr) hv) hu w')) ?_
  refine .s 6 rfl (Gives.assign (x := (.tmp 13)) rfl rfl) ?_
  exact .nil
 case hk => kernel_rfl
 case h =>
 intro W1 hb
 go_wp2_with fail
 go_ret
 exact ⟨rfl, hb0.trans (hb.mono hb0.size)⟩
def Rm (w : World) : Prop := ∃ t, w.heap[5]? = some (.cells (EL rtL).toArray t (0, 0))
theorem Rm.lt {w : World} (h : Rm w) : 5 < w.heap.size := by
 obtain ⟨t, h⟩ := h
 exact (Array.getElem?_eq_some_iff.1 h).1
theorem Rm.belowAll {w w' : World} (h : Rm w) (hb : Below w.heap.size w w') : Rm w' := by
 have hl := h.lt
 obtain ⟨t, h⟩ := h
 exact ⟨t, (hb.block _ hl).trans h⟩
structure Gl (w : World) : Prop where
 en : En w
 rm : Rm w
theorem Gl.belowAll {w w' : World} (h : Gl w) (hb : Below w.heap.size w w') : Gl w' := ⟨h.en.belowAll hb, h.rm.belowAll hb⟩
theorem wpList_load_guarded {P : Program} {ops : Array Oper} {rest : List Oper} {o : Oper} {a : Act} {w : World} {Q : Exit → Act → World → Prop} (hw : Region.wanted o (yielded ops a.tmps) = true) (ty : TypeId) (x : Operand) (ho : o.op = .load ty x)
  (g : Nat) (hx : a.eval x = .pointer (some ⟨g, 0, none⟩)) (T : TypeId) (l : List Value) (hr : Row w g T l) {d : TypeDesc}
  (hu : P.underlying ty = some d) (hd : (match d with | .struct _ | .array _ _ => true | _ => false) = true) (hi : (P.info? ty).map (·.size) = some l.toArray.size)
  (h : wpList P ops Q rest (a.put o.dst (.agg l.toArray)) w) : wpList P ops Q (o :: rest) a w :=
 BigFrame.wpList_want hw fun _ hK => wp_load_row ty x ho g hx T _ (0, 0) _ hr hu hd hi (hK _ _ h)
set_option maxHeartbeats 1600000 in
theorem root_any {u v : Lm} (hu : u.ok) (hv : v.ok) (w : World) (hq : Gl w) :
  Calls Tryz.prog 109 #[.agg (EL u).toArray, .agg (EL v).toArray] w fun e w' => e = .returned (.tuple #[.agg (EL (rootL u v)).toArray, .bool (rootOk u v)]) ∧ Below w.heap.size w w' := by
 have HROK := yH (root1_ok hu hv)
 have HCOK := yH (candL_ok hu hv)
 have HS4 := yH el_info
 have HS5 := yH l5_info
 have hq0 := hq
 have hr2 : Row (((w.alloc (.cells (EL u).toArray 62)).alloc (.cells (EL v).toArray 62)).alloc (.cells (EL zeL).toArray 62)) w.heap.size 62 (EL u) := ((Row.new w (EL u) 62).alloc _).alloc _
 have hr3 : Row (((w.alloc (.cells (EL u).toArray 62)).alloc (.cells (EL v).toArray 62)).alloc (.cells (EL zeL).toArray 62)) (w.heap.size + 1) 62 (EL v) := (Row.new1 w _ (EL v) 62).alloc _
 have hr4 := Row.new2 w (.cells (EL u).toArray 62) (.cells (EL v).toArray 62) (EL zeL) 62
 have hb0 := Below.alloc3 w (.cells (EL u).toArray 62) (.cells (EL v).toArray 62) (.cells (EL zeL).toArray 62)
 have hgl := hq.belowAll hb0
 have hs0 : (((w.alloc (.cells (EL u).toArray 62)).alloc (.cells (EL v).toArray 62)).alloc (.cells (EL zeL).toArray 62)).heap.size = w.heap.size + 1 + 1 + 1 := by simp
 have HR2 := yH hr2
 have HR3 := yH hr3
 have HR4 := yH hr4
 have HB0 := yH hb0
 have HGL := yH hgl
 have HS0 := yH hs0
 clear hr2 hr3 hr4 hb0 hgl hq hs0
 go_enter Tryz.func109, Tryz.ntmps109
 go_wp2_with (first
  | (refine wpList_load_row rfl 62 (.tmp 2) rfl w.heap.size rfl 62 _ (0, 0) _ HR2.out Tryz.underlying62 rfl (HS4.out _) ?_)
  | (refine wpList_load_row rfl 62 (.tmp 3) rfl (w.heap.size + 1) rfl 62 _ (0, 0) _ HR3.out Tryz.underlying62 rfl (HS4.out _) ?_))
 refine (cand_any hu hv _).mono ?_
 rintro e w1 ⟨rfl, hb1⟩
 have hs1 : w.heap.size + 1 + 1 + 1 ≤ w1.heap.size := by rw [← HS0.out]; exact hb1.size
 have a2 := ((HR2.out.belowAll hb1).alloc (.cells (EL zeL).toArray 62)).setRowOther (k := w1.heap.size) (by omega) (EL (candL u v)).toArray
 have a3 := ((HR3.out.belowAll hb1).alloc (.cells (EL zeL).toArray 62)).setRowOther (k := w1.heap.size) (by omega) (EL (candL u v)).toArray
 have a4 := ((HR4.out.belowAll hb1).alloc (.cells (EL zeL).toArray 62)).setRowOther (k := w1.heap.size) (by omega) (EL (candL u v)).toArray
 have a60 := Row.new w1 (EL zeL) 62
 have a6 := a60.setRow (EL (candL u v))
 have ab0 := HB0.out.trans (hb1.mono HB0.out.size)
 have ab := below_setRow (g := w1.heap.size) (ab0.alloc (by omega) (.cells (EL zeL).toArray 62)) (by omega) (EL (candL u v)).toArray
 have agl : Gl ((w1.alloc (.cells (EL zeL).toArray 62)).setRow w1.heap.size (EL (candL u v)).toArray) := by
  have g1 := HGL.out.belowAll hb1
  exact g1.belowAll (below_setRow ((Below.refl w1.heap.size w1).alloc (Nat.le_refl _) _) (Nat.le_refl _) _)
 have A60 := yH a60
 have A2 := yH a2
 have A3 := yH a3
 have A4 := yH a4
 have A6 := yH a6
 have AB := yH ab
 have AGL := yH agl
 have AS := yH hs1
 clear hb1 hs1 a2 a3 a4 a60 a6 ab0 ab agl HR2 HR3 HR4 HB0 HGL HS0
 go_wp2_with (first
  | (refine wpList_store_row rfl 62 (.tmp 6) (.tmp 9) rfl w1.heap.size _ rfl rfl 62 _ A60.out (HS4.out _) (EL_sz _ _) (EL_one _) ?_)
  | (refine wpList_load_row rfl 62 (.tmp 6) rfl w1.heap.size rfl 62 _ (0, 0) _ A6.out Tryz.underlying62 rfl (HS4.out _) ?_)
  | (refine wpList_load_row rfl 62 (.tmp 2) rfl w.heap.size rfl 62 _ (0, 0) _ A2.out Tryz.underlying62 rfl (HS4.out _) ?_)
  | (refine wpList_load_row rfl 62 (.tmp 3) rfl (w.heap.size + 1) rfl 62 _ (0, 0) _ A3.out Tryz.underlying62 rfl (HS4.out _) ?_))
 refine (fits_any HCOK.out hu hv _).mono ?_
 rintro e w3 ⟨rfl, hb3⟩
 have C2 := yH (A2.out.belowAll hb3)
 have C3 := yH (A3.out.belowAll hb3)
 have C4 := yH (A4.out.belowAll hb3)
 have C6 := yH (A6.out.belowAll hb3)
 have CB := yH (AB.out.trans (hb3.mono AB.out.size))
 have CGL := yH (AGL.out.belowAll hb3)
 clear hb3 A2 A3 A4 A6 A60 AB AGL
 cases hf0 : fitB (candL u v) u v with
 | true =>
  have hr1 : root1 u v = candL u v := by unfold root1; rw [hf0]; rfl
  rw [← hr1] at C6
  clear hr1
  have CEN := yH CGL.out.en
  have HZ := yH (zero_any hv)
  cases hz : decide (nu v = 0) with
  | true =>
   have hok : rootOk u v = false := by unfold rootOk; rw [hz]; rfl
   have hrt : rootL u v = zeL := by unfold rootL; rw [hok]; rfl
   go_wp2_with (refine wpList_load_row rfl 62 (.tmp 3) rfl (w.heap.size + 1) rfl 62 _ (0, 0) _ C3.out Tryz.underlying62 rfl (HS4.out _) ?_)
   refine (HZ.out _).mono ?_
   rintro e w7 ⟨rfl, hb7⟩
   rw [hz]
   have hres7 := C4.out.belowAll hb7
   have hw7 := CB.out.trans (hb7.mono CB.out.size)
   clear hb7
   go_wp2_with (first
    | (refine wpList_build0 rfl 62 rfl (.agg (EL zeL).toArray) (el_zero _) ?_)
    | (refine wpList_store_row rfl 62 (.tmp 4) (.tmp 28) rfl (w.heap.size + 1 + 1) _ rfl rfl 62 _ hres7 (HS4.out _) (EL_sz _ _) (EL_one _) ?_))
   refine bodyPost_ret (results_row_slot (by rfl) _ _ (w.heap.size + 1 + 1) _ _ _ _ _ (by rfl) (setRow_heap w7 (w.heap.size + 1 + 1) _ (EL zeL).toArray _ _ hres7) Tryz.underlying62 rfl (HS4.out _) (by rfl)) rfl ?_
   exact ⟨by rw [hrt, hok]; rfl, below_setRow hw7 (by omega) _⟩
  | false =>
   go_wp2_with (refine wpList_load_row rfl 62 (.tmp 3) rfl (w.heap.size + 1) rfl 62 _ (0, 0) _ C3.out Tryz.underlying62 rfl (HS4.out _) ?_)
   refine (HZ.out _).mono ?_
   rintro e w7 ⟨rfl, hb7⟩
   rw [hz]
   have HU7 := yH (C2.out.belowAll hb7)
   have HV7 := yH (C3.out.belowAll hb7)
   have HR7 := yH (C6.out.belowAll hb7)
   have HE7 := yH (C4.out.belowAll hb7)
   have HB7 := yH (CB.out.trans (hb7.mono CB.out.size))
   have HS7 := yH (AS.out)
   have HEN7 := yH (CEN.out.belowAll hb7)
   clear hb7
   go_wp2_with (first
    | (refine wpList_load_guarded (by rfl) 62 (.tmp 6) rfl w1.heap.size rfl 62 _ HR7.out Tryz.underlying62 rfl (HS4.out _) ?_)
    | (refine wpList_load_guarded (by rfl) 62 (.tmp 2) rfl w.heap.size rfl 62 _ HU7.out Tryz.underlying62 rfl (HS4.out _) ?_)
    | (refine wpList_load_guarded (by rfl) 62 (.tmp 3) rfl (w.heap.size + 1) rfl 62 _ HV7.out Tryz.underlying62 rfl (HS4.out _) ?_))
   refine (fits_any HROK.out hu hv _).mono ?_
   rintro e w8 ⟨rfl, hb8⟩
   have HR8 := yH (HR7.out.belowAll hb8)
   have HE8 := yH (HE7.out.belowAll hb8)
   have HB8 := yH (HB7.out.trans (hb8.mono HB7.out.size))
   have HEN8 := yH (HEN7.out.belowAll hb8)
   clear hb8
   cases hf : fitB (root1 u v) u v with
   | false =>
    have hok : rootOk u v = false := by unfold rootOk; rw [hf, Bool.and_false]
    have hrt : rootL u v = zeL := by unfold rootL; rw [hok]; rfl
    go_wp2_with (first
     | (refine wpList_build0 rfl 62 rfl (.agg (EL zeL).toArray) (el_zero _) ?_)
     | (refine wpList_store_row rfl 62 (.tmp 4) (.tmp 28) rfl (w.heap.size + 1 + 1) _ rfl rfl 62 _ HE8.out (HS4.out _) (EL_sz _ _) (EL_one _) ?_))
    refine bodyPost_ret (results_row_slot (by rfl) _ _ (w.heap.size + 1 + 1) _ _ _ _ _ (by rfl) (setRow_heap w8 (w.heap.size + 1 + 1) _ (EL zeL).toArray _ _ HE8.out) Tryz.underlying62 rfl (HS4.out _) (by rfl)) rfl ?_
    exact ⟨by rw [hrt, hok]; rfl, below_setRow HB8.out (by omega) _⟩
   | true =>
    have hok : rootOk u v = true := by unfold rootOk; rw [hf, hz]; rfl
    go_wp2_with (refine wpList_load_row rfl 62 (.tmp 6) rfl w1.heap.size rfl 62 _ (0, 0) _ HR8.out Tryz.underlying62 rfl (HS4.out _) ?_)
    refine (odd_any HROK.out _).mono ?_
    rintro e w9 ⟨rfl, hb9⟩
    have HR9 := yH (HR8.out.belowAll hb9)
    have HE9 := yH (HE8.out.belowAll hb9)
    have HB9 := yH (HB8.out.trans (hb9.mono HB8.out.size))
    have HEN9 := yH (HEN8.out.belowAll hb9)
    clear hb9
    cases ho : decide (nu (root1 u v) % 2 = 1) with
    | false =>
     have hrt : rootL u v = root1 u v := by unfold rootL; rw [hok, if_pos rfl, if_neg (of_decide_eq_false ho)]
     go_wp2_with (first
      | (refine wpList_load_row rfl 62 (.tmp 6) rfl w1.heap.size rfl 62 _ (0, 0) _ HR9.out Tryz.underlying62 rfl (HS4.out _) ?_)
      | (refine wpList_store_row rfl 62 (.tmp 4) (.tmp 33) rfl (w.heap.size + 1 + 1) _ rfl rfl 62 _ HE9.out (HS4.out _) (EL_sz _ _) (EL_one _) ?_))
     refine bodyPost_ret (results_row_slot (by rfl) _ _ (w.heap.size + 1 + 1) _ _ _ _ _ (by rfl) (setRow_heap w9 (w.heap.size + 1 + 1) _ (EL (root1 u v)).toArray _ _ HE9.out) Tryz.underlying62 rfl (HS4.out _) (by rfl)) rfl ?_
     exact ⟨by rw [hrt, hok]; rfl, below_setRow HB9.out (by omega) _⟩
    | true =>
     have hrt : rootL u v = negL (root1 u v) := by unfold rootL; rw [hok, if_pos rfl, if_pos (of_decide_eq_true ho)]
     go_wp2_with (refine wpList_load_row rfl 62 (.tmp 6) rfl w1.heap.size rfl 62 _ (0, 0) _ HR9.out Tryz.underlying62 rfl (HS4.out _) ?_)
     refine (neg_any HROK.out _ HEN9.out).mono ?_
     rintro e wa ⟨rfl, hba⟩
     have HEa := yH (HE9.out.belowAll hba)
     have HBa := yH (HB9.out.trans (hba.mono HB9.out.size))
     clear hba
     go_wp2_with (refine wpList_store_row rfl 62 (.tmp 4) (.tmp 32) rfl (w.heap.size + 1 + 1) _ rfl rfl 62 _ HEa.out (HS4.out _) (EL_sz _ _) (EL_one _) ?_)
     refine bodyPost_ret (results_row_slot (by rfl) _ _ (w.heap.size + 1 + 1) _ _ _ _ _ (by rfl) (setRow_heap wa (w.heap.size + 1 + 1) _ (EL (negL (root1 u v))).toArray _ _ HEa.out) Tryz.underlying62 rfl (HS4.out _) (by rfl)) rfl ?_
     exact ⟨by rw [hrt, hok]; rfl, below_setRow HBa.out (by omega) _⟩
 | false =>
  have hr1 : root1 u v = mulL (candL u v) rtL := by unfold root1; rw [hf0]; rfl
  have HRR1 := yH hr1
  clear hr1
  obtain ⟨tq, hqr⟩ := CGL.out.rm
  have HQR := yH hqr
  clear hqr
  go_wp2_with (first
   | (refine wpList_load_row rfl 62 (.tmp 6) rfl w1.heap.size rfl 62 _ (0, 0) _ C6.out Tryz.underlying62 rfl (HS4.out _) ?_)
   | (refine wpList_load_row rfl 60 (.global 5) rfl 5 rfl tq _ (0, 0) _ HQR.out Tryz.underlying60 rfl (HS5.out _) ?_)
   | (refine wpList_build1 rfl 62 (.tmp 16) rfl (.agg (EL rtL).toArray) (.agg (EL rtL).toArray) rfl (el_build rtL _) ?_))
  refine (mul_any HCOK.out rtL_ok _).mono ?_
  rintro e w5 ⟨rfl, hb5⟩
  have hz := AS.out
  have d60 := C6.out.belowAll hb5
  have d6 := d60.setRow (EL (mulL (candL u v) rtL))
  have d2 := (C2.out.belowAll hb5).setRowOther (k := w1.heap.size) (by omega) (EL (mulL (candL u v) rtL)).toArray
  have d3 := (C3.out.belowAll hb5).setRowOther (k := w1.heap.size) (by omega) (EL (mulL (candL u v) rtL)).toArray
  have d4 := (C4.out.belowAll hb5).setRowOther (k := w1.heap.size) (by omega) (EL (mulL (candL u v) rtL)).toArray
  have db := below_setRow (g := w1.heap.size) (CB.out.trans (hb5.mono CB.out.size)) (by omega) (EL (mulL (candL u v) rtL)).toArray
  have den : En (w5.setRow w1.heap.size (EL (mulL (candL u v) rtL)).toArray) := by
   have g1 := CGL.out.en.belowAll hb5
   obtain ⟨t, g2⟩ := g1
   refine ⟨t, (setRow_other w5 w1.heap.size _ _ ?_).trans g2⟩
   have := hq0.en.lt
   omega
  have d6' : Row (w5.setRow w1.heap.size (EL (mulL (candL u v) rtL)).toArray) w1.heap.size 62 (EL (root1 u v)) := by rw [HRR1.out]; exact d6
  clear HRR1
  have D60 := yH d60
  have D6 := yH d6'
  clear d6'
  have D2 := yH d2
  have D3 := yH d3
  have D4 := yH d4
  have DB := yH db
  have DEN := yH den
  clear hz hb5 d60 d6 d2 d3 d4 db den
  go_wp2_with (first
   | (refine wpList_store_row rfl 62 (.tmp 6) (.tmp 18) rfl w1.heap.size _ rfl rfl 62 _ D60.out (HS4.out _) (EL_sz _ _) (EL_one _) ?_)
   | (refine wpList_load_row rfl 62 (.tmp 3) rfl (w.heap.size + 1) rfl 62 _ (0, 0) _ D3.out Tryz.underlying62 rfl (HS4.out _) ?_))
  have HZ := yH (zero_any hv)
  cases hz : decide (nu v = 0) with
  | true =>
   have hok : rootOk u v = false := by unfold rootOk; rw [hz]; rfl
   have hrt : rootL u v = zeL := by unfold rootL; rw [hok]; rfl
   refine (HZ.out _).mono ?_
   rintro e w7 ⟨rfl, hb7⟩
   rw [hz]
   have hres7 := D4.out.belowAll hb7
   have hw7 := DB.out.trans (hb7.mono DB.out.size)
   clear hb7
   go_wp2_with (first
    | (refine wpList_build0 rfl 62 rfl (.agg (EL zeL).toArray) (el_zero _) ?_)
    | (refine wpList_store_row rfl 62 (.tmp 4) (.tmp 28) rfl (w.heap.size + 1 + 1) _ rfl rfl 62 _ hres7 (HS4.out _) (EL_sz _ _) (EL_one _) ?_))
   refine bodyPost_ret (results_row_slot (by rfl) _ _ (w.heap.size + 1 + 1) _ _ _ _ _ (by rfl) (setRow_heap w7 (w.heap.size + 1 + 1) _ (EL zeL).toArray _ _ hres7) Tryz.underlying62 rfl (HS4.out _) (by rfl)) rfl ?_
   exact ⟨by rw [hrt, hok]; rfl, below_setRow hw7 (by omega) _⟩
  | false =>
   refine (HZ.out _).mono ?_
   rintro e w7 ⟨rfl, hb7⟩
   rw [hz]
   have HU7 := yH (D2.out.belowAll hb7)
   have HV7 := yH (D3.out.belowAll hb7)
   have HR7 := yH (D6.out.belowAll hb7)
   have HE7 := yH (D4.out.belowAll hb7)
   have HB7 := yH (DB.out.trans (hb7.mono DB.out.size))
   have HS7 := yH (AS.out)
   have HEN7 := yH (DEN.out.belowAll hb7)
   clear hb7
   go_wp2_with (first
    | (refine wpList_load_guarded (by rfl) 62 (.tmp 6) rfl w1.heap.size rfl 62 _ HR7.out Tryz.underlying62 rfl (HS4.out _) ?_)
    | (refine wpList_load_guarded (by rfl) 62 (.tmp 2) rfl w.heap.size rfl 62 _ HU7.out Tryz.underlying62 rfl (HS4.out _) ?_)
    | (refine wpList_load_guarded (by rfl) 62 (.tmp 3) rfl (w.heap.size + 1) rfl 62 _ HV7.out Tryz.underlying62 rfl (HS4.out _) ?_))
   refine (fits_any HROK.out hu hv _).mono ?_
   rintro e w8 ⟨rfl, hb8⟩
   have HR8 := yH (HR7.out.belowAll hb8)
   have HE8 := yH (HE7.out.belowAll hb8)
   have HB8 := yH (HB7.out.trans (hb8.mono HB7.out.size))
   have HEN8 := yH (HEN7.out.belowAll hb8)
   clear hb8
   cases hf : fitB (root1 u v) u v with
   | false =>
    have hok : rootOk u v = false := by unfold rootOk; rw [hf, Bool.and_false]
    have hrt : rootL u v = zeL := by unfold rootL; rw [hok]; rfl
    go_wp2_with (first
     | (refine wpList_build0 rfl 62 rfl (.agg (EL zeL).toArray) (el_zero _) ?_)
     | (refine wpList_store_row rfl 62 (.tmp 4) (.tmp 28) rfl (w.heap.size + 1 + 1) _ rfl rfl 62 _ HE8.out (HS4.out _) (EL_sz _ _) (EL_one _) ?_))
    refine bodyPost_ret (results_row_slot (by rfl) _ _ (w.heap.size + 1 + 1) _ _ _ _ _ (by rfl) (setRow_heap w8 (w.heap.size + 1 + 1) _ (EL zeL).toArray _ _ HE8.out) Tryz.underlying62 rfl (HS4.out _) (by rfl)) rfl ?_
    exact ⟨by rw [hrt, hok]; rfl, below_setRow HB8.out (by omega) _⟩
   | true =>
    have hok : rootOk u v = true := by unfold rootOk; rw [hf, hz]; rfl
    go_wp2_with (refine wpList_load_row rfl 62 (.tmp 6) rfl w1.heap.size rfl 62 _ (0, 0) _ HR8.out Tryz.underlying62 rfl (HS4.out _) ?_)
    refine (odd_any HROK.out _).mono ?_
    rintro e w9 ⟨rfl, hb9⟩
    have HR9 := yH (HR8.out.belowAll hb9)
    have HE9 := yH (HE8.out.belowAll hb9)
    have HB9 := yH (HB8.out.trans (hb9.mono HB8.out.size))
    have HEN9 := yH (HEN8.out.belowAll hb9)
    clear hb9
    cases ho : decide (nu (root1 u v) % 2 = 1) with
    | false =>
     have hrt : rootL u v = root1 u v := by unfold rootL; rw [hok, if_pos rfl, if_neg (of_decide_eq_false ho)]
     go_wp2_with (first
      | (refine wpList_load_row rfl 62 (.tmp 6) rfl w1.heap.size rfl 62 _ (0, 0) _ HR9.out Tryz.underlying62 rfl (HS4.out _) ?_)
      | (refine wpList_store_row rfl 62 (.tmp 4) (.tmp 33) rfl (w.heap.size + 1 + 1) _ rfl rfl 62 _ HE9.out (HS4.out _) (EL_sz _ _) (EL_one _) ?_))
     refine bodyPost_ret (results_row_slot (by rfl) _ _ (w.heap.size + 1 + 1) _ _ _ _ _ (by rfl) (setRow_heap w9 (w.heap.size + 1 + 1) _ (EL (root1 u v)).toArray _ _ HE9.out) Tryz.underlying62 rfl (HS4.out _) (by rfl)) rfl ?_
     exact ⟨by rw [hrt, hok]; rfl, below_setRow HB9.out (by omega) _⟩
    | true =>
     have hrt : rootL u v = negL (root1 u v) := by unfold rootL; rw [hok, if_pos rfl, if_pos (of_decide_eq_true ho)]
     go_wp2_with (refine wpList_load_row rfl 62 (.tmp 6) rfl w1.heap.size rfl 62 _ (0, 0) _ HR9.out Tryz.underlying62 rfl (HS4.out _) ?_)
     refine (neg_any HROK.out _ HEN9.out).mono ?_
     rintro e wa ⟨rfl, hba⟩
     have HEa := yH (HE9.out.belowAll hba)
     have HBa := yH (HB9.out.trans (hba.mono HB9.out.size))
     clear hba
     go_wp2_with (refine wpList_store_row rfl 62 (.tmp 4) (.tmp 32) rfl (w.heap.size + 1 + 1) _ rfl rfl 62 _ HEa.out (HS4.out _) (EL_sz _ _) (EL_one _) ?_)
     refine bodyPost_ret (results_row_slot (by rfl) _ _ (w.heap.size + 1 + 1) _ _ _ _ _ (by rfl) (setRow_heap wa (w.heap.size + 1 + 1) _ (EL (negL (root1 u v))).toArray _ _ HEa.out) Tryz.underlying62 rfl (HS4.out _) (by rfl)) rfl ?_
     exact ⟨by rw [hrt, hok]; rfl, below_setRow HBa.out (by omega) _⟩
def pp : Nat := 57896044618658097711785492504343953926634992332820282019728792003956564819949
theorem pp_eq : pp = 57896044618658097711785492504343953926634992332820282019728792003956564819949 := rfl
theorem pp_prime : Pr pp := prP
theorem pp_inv : pp - 2 = eInv := by decide
theorem pp_rt : pp = 8 * eRt + 5 := by decide
theorem nu_pp (x : Lm) : nu x < pp := nu_lt x
theorem nu_mod (x : Lm) : nu x % pp = nu x := Nat.mod_eq_of_lt (nu_lt x)
theorem nu_mulP (x y : Lm) : nu (mulL x y) = nu x * nu y % pp := nu_mulL x y
theorem nu_addP (x y : Lm) : nu (addL x y) = (nu x + nu y) % pp := nu_addL x y
theorem nu_subP (x : Lm) {y : Lm} (hy : y.ok) : nu (subL x y) = (nu x + (pp - nu y)) % pp := nu_subL x hy
theorem nu_negP {x : Lm} (h : x.ok) : nu (negL x) = (pp - nu x) % pp := nu_negL h
theorem nu_invP (x : Lm) : nu (invL x) = nu x ^ (pp - 2) % pp := by rw [pp_inv]; exact nu_invL x
theorem nu_powP (x : Lm) {N : Nat} (hN : N < 2 ^ 256) : nu (powL x N) = nu x ^ N % pp := nu_powL x hN
theorem inv_one (x : Lm) : nu (mulL x (invL x)) = if nu x = 0 then 0 else 1 := by
 rw [nu_mulP, nu_invP, Nat.mul_mod_mod]
 by_cases h : nu x = 0
 ·rw [if_pos h, h, Nat.zero_mul, Nat.zero_mod]
 ·rw [if_neg h]
  exact inv_mul pp_prime (by rw [nu_mod]; exact h)
theorem nu_v3 (v : Lm) : nu (v3L v) = nu v ^ 3 % pp := by
 show nu (mulL (mulL v v) v) = _
 rw [nu_mulP, nu_mulP, Nat.mod_mul_mod]
 congr 1
 rw [Nat.pow_succ, Nat.pow_two]
theorem nu_v7 (v : Lm) : nu (v7L v) = nu v ^ 7 % pp := by
 show nu (mulL (mulL (v3L v) (v3L v)) v) = _
 rw [nu_mulP, nu_mulP, nu_v3, Nat.mod_mul_mod, Nat.mul_assoc, Nat.mod_mul_mod, Nat.mul_left_comm, Nat.mod_mul_mod]
 congr 1
 rw [← Nat.mul_assoc, ← Nat.pow_add, ← Nat.pow_succ]
theorem nu_cand (u v : Lm) : nu (candL u v) = nu u * nu v ^ 3 * (nu u * nu v ^ 7) ^ eRt % pp := by
 show nu (mulL (mulL u (v3L v)) (powL (mulL u (v7L v)) eRt)) = _
 rw [nu_mulP, nu_mulP, nu_powP _ eRt_lt, nu_mulP, nu_v3, nu_v7, Nat.mul_mod_mod, Nat.mul_mod_mod, Nat.mod_mul_mod, Nat.mul_mod_mod, Nat.mul_mod, ← Nat.pow_mod, ← Nat.mul_mod]
def quo (u v : Lm) : Nat := nu u * nu v ^ (pp - 2)
theorem quo_v {u v : Lm} (hv : nu v ≠ 0) : quo u v * nu v % pp = nu u % pp := quo_mul pp_prime (by rw [nu_mod]; exact hv)
theorem cand_q {u v : Lm} (hv : nu v ≠ 0) : nu (candL u v) % pp = quo u v ^ (eRt + 1) % pp := by
 rw [nu_cand, Nat.mod_mod]
 exact cand pp_prime pp_rt (by rw [nu_mod]; exact hv) (quo_v hv)
theorem fitB_iff {r u v : Lm} (hv : nu v ≠ 0) : fitB r u v = true ↔ nu r * nu r % pp = quo u v % pp := by
 unfold fitB
 rw [decide_eq_true_iff, nu_mulP, nu_mulP, Nat.mod_mul_mod, ← fits_iff (q := quo u v) pp_prime (by rw [nu_mod]; exact hv) (quo_v hv), nu_mod u]
theorem root_sq {u v : Lm} (hv : nu v ≠ 0) (h : rootOk u v = true) : nu (root1 u v) * nu (root1 u v) % pp = quo u v % pp := by
 unfold rootOk at h
 rw [Bool.and_eq_true] at h
 exact (fitB_iff hv).1 h.2
theorem root_none {u v : Lm} (hv : nu v = 0) : rootOk u v = false := by
 unfold rootOk
 rw [decide_eq_true hv]
 rfl
theorem jj : (nu rtL * nu rtL + 1) % pp = 0 := by rw [nu_rtL]; exact rt_sq
theorem root_some {u v : Lm} (hv : nu v ≠ 0) {s : Nat} (hs : quo u v % pp = s * s % pp) : rootOk u v = true := by
 have hc := cand_q (u := u) hv
 have key : fitB (root1 u v) u v = true := by
  unfold root1
  split
  ·rename_i h; exact h
  ·rename_i h
   rw [fitB_iff hv] at h ⊢
   rcases sq_root (E := eRt) pp_prime pp_rt jj hs with h1 | h1
   ·exfalso
    refine h ?_
    rw [← h1]
    exact mm hc hc
   ·rw [← h1, nu_mulP, Nat.mod_mul_mod, Nat.mul_mod_mod]
    exact mm (mm hc rfl) (mm hc rfl)
 unfold rootOk
 rw [key, decide_eq_false hv]
 rfl
theorem rootL_even {u v : Lm} (hu : u.ok) (hv : v.ok) : nu (rootL u v) % 2 = 0 := by
 unfold rootL
 split
 ·split
  ·rename_i h1 h2
   have h3 := nu_pp (root1 u v)
   have h4 : 0 < nu (root1 u v) := by omega
   rw [nu_negP (root1_ok hu hv)]
   generalize nu (root1 u v) = r at *
   have e : (pp - r) % pp = pp - r := Nat.mod_eq_of_lt (by omega)
   rw [e]
   have hp : pp % 2 = 1 := by decide
   omega
  ·rename_i h1 h2; omega
 ·rw [nu_zeL]
theorem rootL_sq {u v : Lm} (hu : u.ok) (hvk : v.ok) (hv : nu v ≠ 0) (h : rootOk u v = true) : nu (rootL u v) * nu (rootL u v) % pp = quo u v % pp := by
 have h1 := root_sq hv h
 unfold rootL
 rw [h, if_pos rfl]
 split
 ·rw [nu_negP (root1_ok hu hvk), ← h1]
  have h3 := nu_pp (root1 u v)
  generalize nu (root1 u v) = r at *
  rw [← Nat.mul_mod]
  have e : (pp - r) * (pp - r) + pp * (2 * r) = r * r + pp * pp := by
   obtain ⟨d, hd⟩ : ∃ d, pp = r + d := ⟨pp - r, by omega⟩
   rw [hd, Nat.add_sub_cancel_left]
   grind
  have e2 := congrArg (· % pp) e
  simp only [Nat.add_mul_mod_self_left] at e2
  exact e2
 ·exact h1
end Go.Proofs.YtnpjecdodhkplaaGreatDoor
