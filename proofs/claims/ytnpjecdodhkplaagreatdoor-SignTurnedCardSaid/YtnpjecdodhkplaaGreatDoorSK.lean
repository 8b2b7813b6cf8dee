import Derived.Test.YtnpjecdodhkplaaGreatDoorSJ
namespace Go.Proofs.YtnpjecdodhkplaaGreatDoor
set_option maxRecDepth 100000
set_option linter.unusedSimpArgs false
set_option linter.unusedVariables false
open Go.RowKit
open List renaming setIfInBounds_toArray → yA, set_cons_zero → yB, set_cons_succ → yC
open Lib renaming hid → yH
structure Rp where
 x : Lm
 y : Lm
 z : Lm
def RL (r : Rp) : List Value := Nw (nu r.x) ++ (Nw (nu r.y) ++ Nw (nu r.z))
def zeR : Rp := ⟨zeL, zeL, zeL⟩
theorem RL_length (r : Rp) : (RL r).length = 24 := by unfold RL; simp [Nw_length]
theorem RL_sz (r q : Rp) : (RL r).toArray.size = (RL q).toArray.size := by rw [List.size_toArray, List.size_toArray, RL_length, RL_length]
theorem RL_one (r : Rp) : (RL r).toArray.all (·.oneCell') = true := by
 rw [List.all_toArray, List.all_eq_true]
 intro v hv
 have hn : ∀ N, ∀ v ∈ Nw N, v.oneCell' = true := fun N v hv => Tabs_ones .u32 (dw N) 8 v hv
 unfold RL at hv
 rcases List.mem_append.1 hv with h | h
 ·exact hn _ v h
 ·rcases List.mem_append.1 h with h | h
  ·exact hn _ v h
  ·exact hn _ v h
theorem RL_zero : RL zeR = [.int .u32 0, .int .u32 0, .int .u32 0, .int .u32 0, .int .u32 0, .int .u32 0, .int .u32 0, .int .u32 0, .int .u32 0, .int .u32 0, .int .u32 0, .int .u32 0, .int .u32 0, .int .u32 0, .int .u32 0, .int .u32 0, .int .u32 0, .int .u32 0, .int .u32 0, .int .u32 0, .int .u32 0, .int .u32 0, .int .u32 0, .int .u32 0] := by
 unfold RL zeR
 rw [nu_zeL, Nw_zero]
 rfl
theorem rl_size : (Tryz.prog.info? 39).map (·.size) = some 24 := by kernel_rfl
theorem rl_info (r : Rp) : (Tryz.prog.info? 39).map (·.size) = some (RL r).toArray.size := rl_size.trans (by rw [List.size_toArray, RL_length])
theorem rl_build (a b c : Nat) (w : World) : (Instr.build 39 #[(0, .agg (Nw a).toArray), (1, .agg (Nw b).toArray), (2, .agg (Nw c).toArray)]).run Tryz.prog w = .ok (.agg (Nw a ++ (Nw b ++ Nw c)).toArray) w := run_build w 39 _ _ (by kernel_rfl)
theorem rl_mk (x y z : Lm) (w : World) : (Instr.build 39 #[(0, .agg (Nw (nu x)).toArray), (1, .agg (Nw (nu y)).toArray), (2, .agg (Nw (nu z)).toArray)]).run Tryz.prog w = .ok (.agg (RL ⟨x, y, z⟩).toArray) w := rl_build _ _ _ w
theorem rl_mk0 (y z : Lm) (w : World) : (Instr.build 39 #[(0, .agg (Nw 0).toArray), (1, .agg (Nw (nu y)).toArray), (2, .agg (Nw (nu z)).toArray)]).run Tryz.prog w = .ok (.agg (RL ⟨zeL, y, z⟩).toArray) w := by
 have h := rl_build 0 (nu y) (nu z) w
 unfold RL
 rw [nu_zeL]
 exact h
theorem wpList_build3 {P : Program} {ops : Array Oper} {Q : Exit → Act → World → Prop} {rest : List Oper} {o : Oper} {a : Act} {w : World} (hgd : o.guard = none) (T : TypeId) (x0 x1 x2 : Operand) (ho : o.op = .build T #[(0, x0), (1, x1), (2, x2)]) (u0 u1 u2 v : Value) (h0 : a.eval x0 = u0) (h1 : a.eval x1 = u1) (h2 : a.eval x2 = u2)
  (hrun : (Instr.build T #[(0, u0), (1, u1), (2, u2)]).run P w = .ok v w) (h : wpList P ops Q rest (a.put o.dst v) w) : wpList P ops Q (o :: rest) a w := by
 refine wpList_plain hgd fun _ hK => ?_
 unfold Oper.wp execOp
 simp only [ho, Sem.run_bind, Sem.run_pure, List.map_toArray, List.map_cons, List.map_nil, h0, h1, h2, hrun, Result.andThen_ok]
 exact hK _ _ h
theorem wpList_build0_guarded {P : Program} {ops : Array Oper} {rest : List Oper} {o : Oper} {a : Act} {w : World} {Q : Exit → Act → World → Prop} (hw : Region.wanted o (yielded ops a.tmps) = true) (T : TypeId) (ho : o.op = .build T #[]) (v : Value) (hrun : (Instr.build T #[]).run P w = .ok v w)
  (h : wpList P ops Q rest (a.put o.dst v) w) : wpList P ops Q (o :: rest) a w := by
 refine BigFrame.wpList_want hw fun _ hK => ?_
 unfold Oper.wp execOp
 simp only [ho, Sem.run_bind, Sem.run_pure, List.map_toArray, List.map_nil, hrun, Result.andThen_ok]
 exact hK _ _ h
theorem d_eq : nu (mulL (negL (smL 121665)) (invL (smL 121666))) = nu dL := by
 have h1 : 121666 * 121666 ^ (pp - 2) % pp = 1 := inv_mul pp_prime (by decide)
 have h2 : dN * 121666 % pp = pp - 121665 := by decide
 have h3 : nu dL = dN := by
  unfold dL
  rw [nu_ofB]
  decide
 rw [nu_mulP, nu_negP (smL_ok (by decide)), nu_invP, nu_smL (by decide), nu_smL (by decide), h3, Nat.mod_mul_mod, Nat.mul_mod_mod, ← h2, Nat.mod_mul_mod, Nat.mul_assoc, Nat.mul_mod, h1, Nat.mul_one, Nat.mod_mod]
 decide
set_option maxHeartbeats 3200000 in
theorem d_ref  (w : World) :
  Calls Tryz.prog 40 #[] w fun e w' => e = .returned (.agg (Nw (nu dL)).toArray) ∧ Below w.heap.size w w' := by
 have hz : Row (w.alloc (.cells #[.int .u32 0, .int .u32 0, .int .u32 0, .int .u32 0, .int .u32 0, .int .u32 0, .int .u32 0, .int .u32 0] 37)) (w.heap.size) 37 (Nw 0) := by
  rw [Nw_zero]
  exact Row.new w _ _
 have hw := Below.alloc1 w (.cells #[.int .u32 0, .int .u32 0, .int .u32 0, .int .u32 0, .int .u32 0, .int .u32 0, .int .u32 0, .int .u32 0] 37)
 go_enter Tryz.func40, Tryz.ntmps40
 go_wp2_with (refine wpList_build0 rfl 37 rfl _ (nw_build _) ?_)
 refine (smallr_nu 121665 (by decide) _).mono ?_
 rintro e W1 ⟨rfl, hb⟩
 replace hz := hz.belowAll hb
 replace hw := hw.trans (hb.mono hw.size)
 clear hb
 go_wp2_with fail
 refine (negr_nu (smL_ok (by decide)) _).mono ?_
 rintro e W2 ⟨rfl, hb⟩
 replace hz := hz.belowAll hb
 replace hw := hw.trans (hb.mono hw.size)
 clear hb
 go_wp2_with fail
 refine (smallr_nu 121666 (by decide) _).mono ?_
 rintro e W3 ⟨rfl, hb⟩
 replace hz := hz.belowAll hb
 replace hw := hw.trans (hb.mono hw.size)
 clear hb
 go_wp2_with fail
 refine (invr_nu (smL 121666) _).mono ?_
 rintro e W4 ⟨rfl, hb⟩
 replace hz := hz.belowAll hb
 replace hw := hw.trans (hb.mono hw.size)
 clear hb
 go_wp2_with fail
 refine (mulr_nu (negL (smL 121665)) (invL (smL 121666)) _).mono ?_
 rintro e W5 ⟨rfl, hb⟩
 replace hz := hz.belowAll hb
 replace hw := hw.trans (hb.mono hw.size)
 clear hb
 rw [d_eq]
 have hgot := setRow_heap _ (w.heap.size) _ (Nw (nu dL)).toArray _ _ hz
 have HGOT := yH hgot
 have HW := yH hw
 clear hgot hw
 go_wp2_with (first
  | (refine wpList_store_row rfl 37 (.tmp 0) (.tmp 6) rfl (w.heap.size) _ rfl rfl 37 _ hz (nw_info _) (Nw_sz _ _) (Nw_one _) ?_))
 refine bodyPost_ret (results_cell_row (by rfl) _ _ (w.heap.size) _ _ _ _ (by rfl) HGOT.out Tryz.underlying37 rfl (nw_info _)) rfl ?_
 exact ⟨rfl, below_setRow HW.out (by omega) _⟩
set_option maxHeartbeats 3200000 in
theorem zr_ref  (w : World) :
  Calls Tryz.prog 33 #[] w fun e w' => e = .returned (.agg (RL ⟨zeL, smL 1, smL 1⟩).toArray) ∧ Below w.heap.size w w' := by
 have hz : Row (w.alloc (.cells #[.int .u32 0, .int .u32 0, .int .u32 0, .int .u32 0, .int .u32 0, .int .u32 0, .int .u32 0, .int .u32 0, .int .u32 0, .int .u32 0, .int .u32 0, .int .u32 0, .int .u32 0, .int .u32 0, .int .u32 0, .int .u32 0, .int .u32 0, .int .u32 0, .int .u32 0, .int .u32 0, .int .u32 0, .int .u32 0, .int .u32 0, .int .u32 0] 39)) (w.heap.size) 39 (RL zeR) := by
  rw [RL_zero]
  exact Row.new w _ _
 have hw := Below.alloc1 w (.cells #[.int .u32 0, .int .u32 0, .int .u32 0, .int .u32 0, .int .u32 0, .int .u32 0, .int .u32 0, .int .u32 0, .int .u32 0, .int .u32 0, .int .u32 0, .int .u32 0, .int .u32 0, .int .u32 0, .int .u32 0, .int .u32 0, .int .u32 0, .int .u32 0, .int .u32 0, .int .u32 0, .int .u32 0, .int .u32 0, .int .u32 0, .int .u32 0] 39)
 go_enter Tryz.func33, Tryz.ntmps33
 go_wp2_with (refine wpList_build0 rfl 37 rfl _ (nw_build _) ?_)
 refine (smallr_nu 1 (by decide) _).mono ?_
 rintro e W1 ⟨rfl, hb⟩
 replace hz := hz.belowAll hb
 replace hw := hw.trans (hb.mono hw.size)
 clear hb
 go_wp2_with fail
 refine (smallr_nu 1 (by decide) _).mono ?_
 rintro e W2 ⟨rfl, hb⟩
 replace hz := hz.belowAll hb
 replace hw := hw.trans (hb.mono hw.size)
 clear hb
 have hgot := setRow_heap _ (w.heap.size) _ (RL ⟨zeL, smL 1, smL 1⟩).toArray _ _ hz
 have HGOT := yH hgot
 have HZ := yH hz
 have HW := yH hw
 clear hgot hw hz
 go_wp2_with (first
  | (refine wpList_build3 rfl 39 (.tmp 1) (.tmp 2) (.tmp 3) rfl (.agg (Nw 0).toArray) (.agg (Nw (nu (smL 1))).toArray) (.agg (Nw (nu (smL 1))).toArray) _ rfl rfl rfl (rl_mk0 _ _ _) ?_)
  | (refine wpList_store_row rfl 39 (.tmp 0) (.tmp 4) rfl (w.heap.size) _ rfl rfl 39 _ HZ.out (rl_info _) (RL_sz _ _) (RL_one _) ?_))
 refine bodyPost_ret (results_cell_row (by rfl) _ _ (w.heap.size) _ _ _ _ (by rfl) HGOT.out Tryz.underlying39 rfl (rl_info _)) rfl ?_
 exact ⟨rfl, below_setRow HW.out (by omega) _⟩
theorem ge_hi_true {N : Nat} (h : N / 57896044618658097711785492504343953926634992332820282019728792003956564819968 % 2 = 1) : (128 : Int) ≤ ((byt N 31 : Nat) : Int) := by
 have h2 := byt_hi N
 have h3 := byt_lt N 31
 omega
theorem ge_hi_false {N : Nat} (h : ¬ N / 57896044618658097711785492504343953926634992332820282019728792003956564819968 % 2 = 1) : ((byt N 31 : Nat) : Int) < 128 := by
 have h2 := byt_hi N
 have h3 := byt_lt N 31
 omega
set_option maxHeartbeats 12800000 in
theorem drx_ref (N : Nat) (w : World) :
  Calls Tryz.prog 12 #[.agg (By N 32).toArray] w fun e w' => (∃ r : Rp, e = .returned (.tuple #[.agg (RL r).toArray, .bool (decOk N)]) ∧ (decOk N = true → r = ⟨if N / 57896044618658097711785492504343953926634992332820282019728792003956564819968 % 2 = 1 then negL (rootL (frU (ofB (N % 57896044618658097711785492504343953926634992332820282019728792003956564819968))) (frV (ofB (N % 57896044618658097711785492504343953926634992332820282019728792003956564819968)))) else rootL (frU (ofB (N % 57896044618658097711785492504343953926634992332820282019728792003956564819968))) (frV (ofB (N % 57896044618658097711785492504343953926634992332820282019728792003956564819968))), ofB (N % 57896044618658097711785492504343953926634992332820282019728792003956564819968), smL 1⟩)) ∧ Below w.heap.size w w' := by
 have HMM := yH (show N % 57896044618658097711785492504343953926634992332820282019728792003956564819968 < 256 ^ 32 from Nat.lt_trans (Nat.mod_lt _ (by decide)) (by decide))
 by_cases hoth : N / 57896044618658097711785492504343953926634992332820282019728792003956564819968 % 2 = 1
 by_cases hcan : decide (N % 57896044618658097711785492504343953926634992332820282019728792003956564819968 < pp) = true
 by_cases hok : rootOk (frU (ofB (N % 57896044618658097711785492504343953926634992332820282019728792003956564819968))) (frV (ofB (N % 57896044618658097711785492504343953926634992332820282019728792003956564819968))) = true
 by_cases hx0 : decide (nu (rootL (frU (ofB (N % 57896044618658097711785492504343953926634992332820282019728792003956564819968))) (frV (ofB (N % 57896044618658097711785492504343953926634992332820282019728792003956564819968)))) = 0) = true
 have HDEC := yH (show decOk N = false by unfold decOk; rw [hok, hcan, hx0, decide_eq_true hoth]; rfl)
 have m4 := trivial
 rotate_left
 replace hx0 := (Bool.not_eq_true _).mp hx0
 have HDEC := yH (show decOk N = true by unfold decOk; rw [hok, hcan, hx0, decide_eq_true hoth]; rfl)
 rotate_left
 replace hok := (Bool.not_eq_true _).mp hok
 have HDEC := yH (show decOk N = false by unfold decOk; rw [hok]; rfl)
 have m2 := trivial
 rotate_left
 replace hcan := (Bool.not_eq_true _).mp hcan
 have HDEC := yH (show decOk N = false by unfold decOk; rw [hcan]; cases rootOk (frU (ofB (N % 57896044618658097711785492504343953926634992332820282019728792003956564819968))) (frV (ofB (N % 57896044618658097711785492504343953926634992332820282019728792003956564819968))) <;> rfl)
 have m1 := trivial
 rotate_left
 by_cases hcan : decide (N % 57896044618658097711785492504343953926634992332820282019728792003956564819968 < pp) = true
 by_cases hok : rootOk (frU (ofB (N % 57896044618658097711785492504343953926634992332820282019728792003956564819968))) (frV (ofB (N % 57896044618658097711785492504343953926634992332820282019728792003956564819968))) = true
 have HDEC := yH (show decOk N = true by unfold decOk; rw [hok, hcan, decide_eq_false hoth]; rfl)
 have m3 := trivial
 rotate_left
 replace hok := (Bool.not_eq_true _).mp hok
 have HDEC := yH (show decOk N = false by unfold decOk; rw [hok]; rfl)
 have m2 := trivial
 rotate_left
 replace hcan := (Bool.not_eq_true _).mp hcan
 have HDEC := yH (show decOk N = false by unfold decOk; rw [hcan]; cases rootOk (frU (ofB (N % 57896044618658097711785492504343953926634992332820282019728792003956564819968))) (frV (ofB (N % 57896044618658097711785492504343953926634992332820282019728792003956564819968))) <;> rfl)
 have m1 := trivial
 rotate_left
 all_goals
  have hc := byt_lt N 31
  have hset := By_set31 N
  have hcell := ((Row.new w (By N 32) 22).alloc (.cells #[.int .u32 0, .int .u32 0, .int .u32 0, .int .u32 0, .int .u32 0, .int .u32 0, .int .u32 0, .int .u32 0, .int .u32 0, .int .u32 0, .int .u32 0, .int .u32 0, .int .u32 0, .int .u32 0, .int .u32 0, .int .u32 0, .int .u32 0, .int .u32 0, .int .u32 0, .int .u32 0, .int .u32 0, .int .u32 0, .int .u32 0, .int .u32 0] 39)).cell (By_get N 32 (k := 31) (by decide))
  have hfree := ((Row.new w (By N 32) 22).alloc (.cells #[.int .u32 0, .int .u32 0, .int .u32 0, .int .u32 0, .int .u32 0, .int .u32 0, .int .u32 0, .int .u32 0, .int .u32 0, .int .u32 0, .int .u32 0, .int .u32 0, .int .u32 0, .int .u32 0, .int .u32 0, .int .u32 0, .int .u32 0, .int .u32 0, .int .u32 0, .int .u32 0, .int .u32 0, .int .u32 0, .int .u32 0, .int .u32 0] 39)).free 31
  first | (have hge := ge_hi_false hoth) | (have hge := ge_hi_true hoth)
  have e31 : (((byt N 31 : Nat) : Int) % 128) = ((byt N 31 % 128 : Nat) : Int) := by omega
  have hb0 : Row ((w.alloc (.cells ((By N 32).set 31 (.int .u8 (((byt N 31 : Nat) : Int) % 128))).toArray 22)).alloc (.cells #[.int .u32 0, .int .u32 0, .int .u32 0, .int .u32 0, .int .u32 0, .int .u32 0, .int .u32 0, .int .u32 0, .int .u32 0, .int .u32 0, .int .u32 0, .int .u32 0, .int .u32 0, .int .u32 0, .int .u32 0, .int .u32 0, .int .u32 0, .int .u32 0, .int .u32 0, .int .u32 0, .int .u32 0, .int .u32 0, .int .u32 0, .int .u32 0] 39)) w.heap.size 22 (By (N % 57896044618658097711785492504343953926634992332820282019728792003956564819968) 32) := by
   rw [e31, hset]
   exact (Row.new w _ 22).alloc _
  have hz : Row ((w.alloc (.cells ((By N 32).set 31 (.int .u8 (((byt N 31 : Nat) : Int) % 128))).toArray 22)).alloc (.cells #[.int .u32 0, .int .u32 0, .int .u32 0, .int .u32 0, .int .u32 0, .int .u32 0, .int .u32 0, .int .u32 0, .int .u32 0, .int .u32 0, .int .u32 0, .int .u32 0, .int .u32 0, .int .u32 0, .int .u32 0, .int .u32 0, .int .u32 0, .int .u32 0, .int .u32 0, .int .u32 0, .int .u32 0, .int .u32 0, .int .u32 0, .int .u32 0] 39)) (w.heap.size + 1) 39 (RL zeR) := by
   rw [RL_zero]
   exact Row.new1 w _ _ _
  have hw := Below.alloc2 w (.cells ((By N 32).set 31 (.int .u8 (((byt N 31 : Nat) : Int) % 128))).toArray 22) (.cells #[.int .u32 0, .int .u32 0, .int .u32 0, .int .u32 0, .int .u32 0, .int .u32 0, .int .u32 0, .int .u32 0, .int .u32 0, .int .u32 0, .int .u32 0, .int .u32 0, .int .u32 0, .int .u32 0, .int .u32 0, .int .u32 0, .int .u32 0, .int .u32 0, .int .u32 0, .int .u32 0, .int .u32 0, .int .u32 0, .int .u32 0, .int .u32 0] 39)
  clear hset e31
  generalize N % 57896044618658097711785492504343953926634992332820282019728792003956564819968 = M at *
  generalize byt N 31 = c at *
  have hraw := fun wx => raw_ref M HMM.out wx
  have hless := fun wx => less_is (show M < W8 from HMM.out) pp_W8 hcan wx
  have hof := fun wx => ofr_nu M wx
  have hy := ofB_ok M
  generalize ofB M = y at *
  have HRAW := yH hraw
  have HLESS := yH hless
  have HOF := yH hof
  clear hraw hless hof
  go_enter Tryz.func12, Tryz.ntmps12
  go_wp2_with (first
   | (refine wpList_load_row rfl 22 (.tmp 1) rfl (w.heap.size) rfl 22 _ (0, 0) _ hb0 Tryz.underlying22 rfl (by_info _) ?_))
  refine (HRAW.out _).mono ?_
  rintro e Wq1 ⟨rfl, hb⟩
  replace hb0 := hb0.belowAll hb
  replace hz := hz.belowAll hb
  replace hw := hw.trans (hb.mono hw.size)
  clear hb
  go_wp2_with fail
  refine (P_any _).mono ?_
  rintro e Wq2 ⟨rfl, hb⟩
  replace hb0 := hb0.belowAll hb
  replace hz := hz.belowAll hb
  replace hw := hw.trans (hb.mono hw.size)
  clear hb
  go_wp2_with fail
  refine (HLESS.out _).mono ?_
  rintro e Wq3 ⟨rfl, hb⟩
  replace hb0 := hb0.belowAll hb
  replace hz := hz.belowAll hb
  replace hw := hw.trans (hb.mono hw.size)
  clear hb
 all_goals try
  clear m1
  go_wp2_with fail
  refine (zr_ref _).mono ?_
  rintro e Wq4 ⟨rfl, hb⟩
  replace hb0 := hb0.belowAll hb
  replace hz := hz.belowAll hb
  replace hw := hw.trans (hb.mono hw.size)
  clear hb
  have hgot := setRow_heap _ (w.heap.size + 1) _ (RL ⟨zeL, smL 1, smL 1⟩).toArray _ _ hz
  have HGOT := yH hgot
  have HW := yH hw
  clear hgot hw
  go_wp2_with (first
   | (refine wpList_store_row rfl 39 (.tmp 2) (.tmp 22) rfl (w.heap.size + 1) _ rfl rfl 39 _ hz (rl_info _) (RL_sz _ _) (RL_one _) ?_))
  refine bodyPost_ret (results_row_slot (by rfl) _ _ (w.heap.size + 1) _ _ _ _ (.bool false) (by rfl) HGOT.out Tryz.underlying39 rfl (rl_info _) (by rfl)) rfl ?_
  exact ⟨⟨_, by rw [HDEC.out], fun h => absurd (HDEC.out.symm.trans h) (by decide)⟩, below_setRow HW.out (by omega) _⟩
 all_goals
  have hr0 := fun wx => rootr_nu (frU_ok hy) (frV_ok hy) wx
  rw [hok] at hr0
  have HRT := yH hr0
  clear hr0 hok
  go_wp2_with (first
   | (refine wpList_load_row rfl 22 (.tmp 1) rfl (w.heap.size) rfl 22 _ (0, 0) _ hb0 Tryz.underlying22 rfl (by_info _) ?_))
  refine (HOF.out _).mono ?_
  rintro e Wq4 ⟨rfl, hb⟩
  replace hb0 := hb0.belowAll hb
  replace hz := hz.belowAll hb
  replace hw := hw.trans (hb.mono hw.size)
  clear hb
  have lt_hb0 := hb0.lt
  have lt_hz := hz.lt
  have ne_hb0_q4 : w.heap.size ≠ Wq4.heap.size := by omega
  have ne_hz_q4 : w.heap.size + 1 ≠ Wq4.heap.size := by omega
  have new_q4 := Row.new Wq4 (Nw 0) 37
  replace hb0 := (hb0.alloc (.cells (Nw 0).toArray 37)).setRowOther (k := Wq4.heap.size) ne_hb0_q4 (Nw (nu y)).toArray
  replace hz := (hz.alloc (.cells (Nw 0).toArray 37)).setRowOther (k := Wq4.heap.size) ne_hz_q4 (Nw (nu y)).toArray
  have h5 := new_q4.setRow (Nw (nu y))
  have ge_q4 := hw.size
  replace hw := below_setRow (g := Wq4.heap.size) (hw.alloc hw.size (.cells (Nw 0).toArray 37)) hw.size (Nw (nu y)).toArray
  have NEW := yH new_q4
  clear new_q4 lt_hb0 lt_hz
  go_wp2_with (first
   | (refine wpList_store_row rfl 37 (.tmp 5) (.tmp 24) rfl Wq4.heap.size _ rfl rfl 37 _ NEW.out (nw_info _) (Nw_sz _ _) (Nw_one _) ?_))
  clear NEW
  rw [zero8]
  generalize (Wq4.alloc (.cells (Nw 0).toArray 37)).setRow Wq4.heap.size (Nw (nu y)).toArray = Vq4 at *
  generalize Wq4.heap.size = g5 at *
  refine (smallr_nu 1 (by decide) _).mono ?_
  rintro e Wq5 ⟨rfl, hb⟩
  replace hb0 := hb0.belowAll hb
  replace hz := hz.belowAll hb
  replace h5 := h5.belowAll hb
  replace hw := hw.trans (hb.mono hw.size)
  clear hb
  have lt_hb0 := hb0.lt
  have lt_hz := hz.lt
  have lt_h5 := h5.lt
  have ne_hb0_q5 : w.heap.size ≠ Wq5.heap.size := by omega
  have ne_hz_q5 : w.heap.size + 1 ≠ Wq5.heap.size := by omega
  have ne_h5_q5 : g5 ≠ Wq5.heap.size := by omega
  have new_q5 := Row.new Wq5 (Nw 0) 37
  replace hb0 := (hb0.alloc (.cells (Nw 0).toArray 37)).setRowOther (k := Wq5.heap.size) ne_hb0_q5 (Nw (nu (smL 1))).toArray
  replace hz := (hz.alloc (.cells (Nw 0).toArray 37)).setRowOther (k := Wq5.heap.size) ne_hz_q5 (Nw (nu (smL 1))).toArray
  replace h5 := (h5.alloc (.cells (Nw 0).toArray 37)).setRowOther (k := Wq5.heap.size) ne_h5_q5 (Nw (nu (smL 1))).toArray
  have h6 := new_q5.setRow (Nw (nu (smL 1)))
  have ge_q5 := hw.size
  replace hw := below_setRow (g := Wq5.heap.size) (hw.alloc hw.size (.cells (Nw 0).toArray 37)) hw.size (Nw (nu (smL 1))).toArray
  have NEW := yH new_q5
  clear new_q5 lt_hb0 lt_hz lt_h5
  go_wp2_with (first
   | (refine wpList_store_row rfl 37 (.tmp 6) (.tmp 25) rfl Wq5.heap.size _ rfl rfl 37 _ NEW.out (nw_info _) (Nw_sz _ _) (Nw_one _) ?_)
   | (refine wpList_load_row rfl 37 (.tmp 5) rfl (g5) rfl 37 _ (0, 0) _ h5 Tryz.underlying37 rfl (nw_info _) ?_))
  clear NEW
  rw [zero8]
  generalize (Wq5.alloc (.cells (Nw 0).toArray 37)).setRow Wq5.heap.size (Nw (nu (smL 1))).toArray = Vq5 at *
  generalize Wq5.heap.size = g6 at *
  refine (mulr_nu y y _).mono ?_
  rintro e Wq6 ⟨rfl, hb⟩
  replace hb0 := hb0.belowAll hb
  replace hz := hz.belowAll hb
  replace h5 := h5.belowAll hb
  replace h6 := h6.belowAll hb
  replace hw := hw.trans (hb.mono hw.size)
  clear hb
  have lt_hb0 := hb0.lt
  have lt_hz := hz.lt
  have lt_h5 := h5.lt
  have lt_h6 := h6.lt
  have ne_hb0_q6 : w.heap.size ≠ Wq6.heap.size := by omega
  have ne_hz_q6 : w.heap.size + 1 ≠ Wq6.heap.size := by omega
  have ne_h5_q6 : g5 ≠ Wq6.heap.size := by omega
  have ne_h6_q6 : g6 ≠ Wq6.heap.size := by omega
  have new_q6 := Row.new Wq6 (Nw 0) 37
  replace hb0 := (hb0.alloc (.cells (Nw 0).toArray 37)).setRowOther (k := Wq6.heap.size) ne_hb0_q6 (Nw (nu (mulL y y))).toArray
  replace hz := (hz.alloc (.cells (Nw 0).toArray 37)).setRowOther (k := Wq6.heap.size) ne_hz_q6 (Nw (nu (mulL y y))).toArray
  replace h5 := (h5.alloc (.cells (Nw 0).toArray 37)).setRowOther (k := Wq6.heap.size) ne_h5_q6 (Nw (nu (mulL y y))).toArray
  replace h6 := (h6.alloc (.cells (Nw 0).toArray 37)).setRowOther (k := Wq6.heap.size) ne_h6_q6 (Nw (nu (mulL y y))).toArray
  have h7 := new_q6.setRow (Nw (nu (mulL y y)))
  have ge_q6 := hw.size
  replace hw := below_setRow (g := Wq6.heap.size) (hw.alloc hw.size (.cells (Nw 0).toArray 37)) hw.size (Nw (nu (mulL y y))).toArray
  have NEW := yH new_q6
  clear new_q6 lt_hb0 lt_hz lt_h5 lt_h6
  go_wp2_with (first
   | (refine wpList_store_row rfl 37 (.tmp 7) (.tmp 28) rfl Wq6.heap.size _ rfl rfl 37 _ NEW.out (nw_info _) (Nw_sz _ _) (Nw_one _) ?_))
  clear NEW
  rw [zero8]
  generalize (Wq6.alloc (.cells (Nw 0).toArray 37)).setRow Wq6.heap.size (Nw (nu (mulL y y))).toArray = Vq6 at *
  generalize Wq6.heap.size = g7 at *
  have lt_hb0 := hb0.lt
  have lt_hz := hz.lt
  have lt_h5 := h5.lt
  have lt_h6 := h6.lt
  have lt_h7 := h7.lt
 all_goals try
  clear m2
  refine wp_vars_one (aD := ?_) (B := Vq6.heap.size) (S := fun w' => Below Vq6.heap.size Vq6 w') (k1 := 12) (s1 := 13) (T1 := 37) (L1 := 37) (z1 := Nw 0) (c1 := Nw (nu (rootL (frU y) (frV y)))) (x1 := .tmp 8) (y1 := .tmp 39)
   (vs := [(0, .agg (Nw (nu (mulL y y))).toArray), (1, .agg (Nw (nu (smL 1))).toArray), (2, .agg (Nw (nu (subL (mulL y y) (smL 1)))).toArray), (3, .agg (Nw (nu dL)).toArray), (4, .agg (Nw (nu (mulL y y))).toArray), (5, .agg (Nw (nu (mulL dL (mulL y y)))).toArray), (6, .agg (Nw (nu (smL 1))).toArray), (7, .agg (Nw (nu (addL (mulL dL (mulL y y)) (smL 1)))).toArray), (8, .tuple #[.agg (Nw (nu (rootL (frU y) (frV y)))).toArray, .bool false]), (9, .tuple #[.agg (Nw (nu (rootL (frU y) (frV y)))).toArray, .bool false]), (10, .agg (Nw (nu (rootL (frU y) (frV y)))).toArray), (11, .bool false), (14, .bool false)]) (by kernel_rfl) ((Below.refl _ _).drew) (fun _ _ h k => S_trans h k) (fun _ _ cs h hg => S_row h hg cs) (fun _ h => h.size) ?_ (.of rfl rfl rfl (fun w' => nw_alloc w')) ?_ rfl rfl (some 8) rfl rfl rfl ?_ ?_ (nw_info _) (Nw_sz _ _) (Nw_one _) ?_
  rotate_left
  ·refine .s 30 rfl (Gives.l 37 (.tmp 7) (g7) (fun w' h => h7.belowAll h) Tryz.underlying37 (nw_info _)) ?_
   refine .s 31 rfl (Gives.l 37 (.tmp 6) (g6) (fun w' h => h6.belowAll h) Tryz.underlying37 (nw_info _)) ?_
   refine .s 32 rfl (Gives.c (args := [.agg (Nw (nu (mulL y y))).toArray, .agg (Nw (nu (smL 1))).toArray]) rfl Tryz.func38 (fun w' h => subr_nu (mulL y y) sm_ok1 w')) ?_
   refine .s 33 rfl (Gives.c (args := []) rfl Tryz.func40 (fun w' h => d_ref w')) ?_
   refine .s 34 rfl (Gives.l 37 (.tmp 7) (g7) (fun w' h => h7.belowAll h) Tryz.underlying37 (nw_info _)) ?_
   refine .s 35 rfl (Gives.c (args := [.agg (Nw (nu dL)).toArray, .agg (Nw (nu (mulL y y))).toArray]) rfl Tryz.func36 (fun w' h => mulr_nu dL (mulL y y) w')) ?_
   refine .s 36 rfl (Gives.l 37 (.tmp 6) (g6) (fun w' h => h6.belowAll h) Tryz.underlying37 (nw_info _)) ?_
   refine .s 37 rfl (Gives.c (args := [.agg (Nw (nu (mulL dL (mulL y y)))).toArray, .agg (Nw (nu (smL 1))).toArray]) rfl Tryz.func39 (fun w' h => addr_nu (mulL dL (mulL y y)) (smL 1) w')) ?_
   refine .s 38 rfl (Gives.c (args := [.agg (Nw (nu (subL (mulL y y) (smL 1)))).toArray, .agg (Nw (nu (addL (mulL dL (mulL y y)) (smL 1)))).toArray]) rfl Tryz.func37 (fun w' h => HRT.out w')) ?_
   refine .s 29 rfl (Gives.move (x := (.tmp 38)) rfl rfl) ?_
   refine .s 39 rfl (Gives.extract (.tmp 29) 0 rfl _ _ rfl (fun w' => tu_ext0 _ _ w')) ?_
   refine .s 40 rfl (Gives.extract (.tmp 29) 1 rfl _ _ rfl (fun w' => tu_ext1 _ _ w')) ?_
   refine .s 9 rfl (Gives.assign (x := (.tmp 40)) rfl rfl) ?_
   exact .nil
  ·kernel_rfl
  ·intro i1; rfl
  ·intro i1; rfl
  intro g8 Wq7 hb hgq7 h8
  have ge_g8 := Nat.le_trans hw.size hgq7
  have ne_hb0_g8 : w.heap.size ≠ g8 := by omega
  have ne_hz_g8 : w.heap.size + 1 ≠ g8 := by omega
  have ne_h5_g8 : g5 ≠ g8 := by omega
  have ne_h6_g8 : g6 ≠ g8 := by omega
  have ne_h7_g8 : g7 ≠ g8 := by omega
  clear lt_hb0 lt_hz lt_h5 lt_h6 lt_h7
  replace hb0 := hb0.belowAll hb
  replace hz := hz.belowAll hb
  replace h5 := h5.belowAll hb
  replace h6 := h6.belowAll hb
  replace h7 := h7.belowAll hb
  replace hw := hw.trans (hb.mono hw.size)
  clear hb
  go_wp2_with fail
  refine (zr_ref _).mono ?_
  rintro e Wq8 ⟨rfl, hb⟩
  replace hb0 := hb0.belowAll hb
  replace hz := hz.belowAll hb
  replace h5 := h5.belowAll hb
  replace h6 := h6.belowAll hb
  replace h7 := h7.belowAll hb
  replace h8 := h8.belowAll hb
  replace hw := hw.trans (hb.mono hw.size)
  clear hb
  have hgot := setRow_heap _ (w.heap.size + 1) _ (RL ⟨zeL, smL 1, smL 1⟩).toArray _ _ hz
  have HGOT := yH hgot
  have HW := yH hw
  clear hgot hw
  go_wp2_with (first
   | (refine wpList_store_row rfl 39 (.tmp 2) (.tmp 51) rfl (w.heap.size + 1) _ rfl rfl 39 _ hz (rl_info _) (RL_sz _ _) (RL_one _) ?_))
  refine bodyPost_ret (results_row_slot (by rfl) _ _ (w.heap.size + 1) _ _ _ _ (.bool false) (by rfl) HGOT.out Tryz.underlying39 rfl (rl_info _) (by rfl)) rfl ?_
  exact ⟨⟨_, by rw [HDEC.out], fun h => absurd (HDEC.out.symm.trans h) (by decide)⟩, below_setRow HW.out (by omega) _⟩
 all_goals
  refine wp_vars_one (aD := ?_) (B := Vq6.heap.size) (S := fun w' => Below Vq6.heap.size Vq6 w') (k1 := 12) (s1 := 13) (T1 := 37) (L1 := 37) (z1 := Nw 0) (c1 := Nw (nu (rootL (frU y) (frV y)))) (x1 := .tmp 8) (y1 := .tmp 39)
   (vs := [(0, .agg (Nw (nu (mulL y y))).toArray), (1, .agg (Nw (nu (smL 1))).toArray), (2, .agg (Nw (nu (subL (mulL y y) (smL 1)))).toArray), (3, .agg (Nw (nu dL)).toArray), (4, .agg (Nw (nu (mulL y y))).toArray), (5, .agg (Nw (nu (mulL dL (mulL y y)))).toArray), (6, .agg (Nw (nu (smL 1))).toArray), (7, .agg (Nw (nu (addL (mulL dL (mulL y y)) (smL 1)))).toArray), (8, .tuple #[.agg (Nw (nu (rootL (frU y) (frV y)))).toArray, .bool true]), (9, .tuple #[.agg (Nw (nu (rootL (frU y) (frV y)))).toArray, .bool true]), (10, .agg (Nw (nu (rootL (frU y) (frV y)))).toArray), (11, .bool true), (14, .bool true)]) (by kernel_rfl) ((Below.refl _ _).drew) (fun _ _ h k => S_trans h k) (fun _ _ cs h hg => S_row h hg cs) (fun _ h => h.size) ?_ (.of rfl rfl rfl (fun w' => nw_alloc w')) ?_ rfl rfl (some 8) rfl rfl rfl ?_ ?_ (nw_info _) (Nw_sz _ _) (Nw_one _) ?_
  rotate_left
  ·refine .s 30 rfl (Gives.l 37 (.tmp 7) (g7) (fun w' h => h7.belowAll h) Tryz.underlying37 (nw_info _)) ?_
   refine .s 31 rfl (Gives.l 37 (.tmp 6) (g6) (fun w' h => h6.belowAll h) Tryz.underlying37 (nw_info _)) ?_
   refine .s 32 rfl (Gives.c (args := [.agg (Nw (nu (mulL y y))).toArray, .agg (Nw (nu (smL 1))).toArray]) rfl Tryz.func38 (fun w' h => subr_nu (mulL y y) sm_ok1 w')) ?_
   refine .s 33 rfl (Gives.c (args := []) rfl Tryz.func40 (fun w' h => d_ref w')) ?_
   refine .s 34 rfl (Gives.l 37 (.tmp 7) (g7) (fun w' h => h7.belowAll h) Tryz.underlying37 (nw_info _)) ?_
   refine .s 35 rfl (Gives.c (args := [.agg (Nw (nu dL)).toArray, .agg (Nw (nu (mulL y y))).toArray]) rfl Tryz.func36 (fun w' h => mulr_nu dL (mulL y y) w')) ?_
   refine .s 36 rfl (Gives.l 37 (.tmp 6) (g6) (fun w' h => h6.belowAll h) Tryz.underlying37 (nw_info _)) ?_
   refine .s 37 rfl (Gives.c (args := [.agg (Nw (nu (mulL dL (mulL y y)))).toArray, .agg (Nw (nu (smL 1))).toArray]) rfl Tryz.func39 (fun w' h => addr_nu (mulL dL (mulL y y)) (smL 1) w')) ?_
   refine .s 38 rfl (Gives.c (args := [.agg (Nw (nu (subL (mulL y y) (smL 1)))).toArray, .agg (Nw (nu (addL (mulL dL (mulL y y)) (smL 1)))).toArray]) rfl Tryz.func37 (fun w' h => HRT.out w')) ?_
   refine .s 29 rfl (Gives.move (x := (.tmp 38)) rfl rfl) ?_
   refine .s 39 rfl (Gives.extract (.tmp 29) 0 rfl _ _ rfl (fun w' => tu_ext0 _ _ w')) ?_
   refine .s 40 rfl (Gives.extract (.tmp 29) 1 rfl _ _ rfl (fun w' => tu_ext1 _ _ w')) ?_
   refine .s 9 rfl (Gives.assign (x := (.tmp 40)) rfl rfl) ?_
   exact .nil
  ·kernel_rfl
  ·intro i1; rfl
  ·intro i1; rfl
  intro g8 Wq7 hb hgq7 h8
  have ge_g8 := Nat.le_trans hw.size hgq7
  have ne_hb0_g8 : w.heap.size ≠ g8 := by omega
  have ne_hz_g8 : w.heap.size + 1 ≠ g8 := by omega
  have ne_h5_g8 : g5 ≠ g8 := by omega
  have ne_h6_g8 : g6 ≠ g8 := by omega
  have ne_h7_g8 : g7 ≠ g8 := by omega
  clear lt_hb0 lt_hz lt_h5 lt_h6 lt_h7
  replace hb0 := hb0.belowAll hb
  replace hz := hz.belowAll hb
  replace h5 := h5.belowAll hb
  replace h6 := h6.belowAll hb
  replace h7 := h7.belowAll hb
  replace hw := hw.trans (hb.mono hw.size)
  clear hb
 all_goals try
  clear m3
  have hgot := setRow_heap _ (w.heap.size + 1) _ (RL ⟨(rootL (frU y) (frV y)), y, smL 1⟩).toArray _ _ hz
  have HGOT := yH hgot
  have HW := yH hw
  clear hgot hw
  go_wp2_with (first
   | (refine wpList_load_row rfl 37 (.tmp 8) rfl (g8) rfl 37 _ (0, 0) _ h8 Tryz.underlying37 rfl (nw_info _) ?_)
   | (refine wpList_load_row rfl 37 (.tmp 5) rfl (g5) rfl 37 _ (0, 0) _ h5 Tryz.underlying37 rfl (nw_info _) ?_)
   | (refine wpList_load_row rfl 37 (.tmp 6) rfl (g6) rfl 37 _ (0, 0) _ h6 Tryz.underlying37 rfl (nw_info _) ?_)
   | (refine wpList_build3 rfl 39 (.tmp 56) (.tmp 57) (.tmp 58) rfl (.agg (Nw (nu (rootL (frU y) (frV y)))).toArray) (.agg (Nw (nu y)).toArray) (.agg (Nw (nu (smL 1))).toArray) (.agg (RL ⟨(rootL (frU y) (frV y)), y, smL 1⟩).toArray) rfl rfl rfl (rl_mk (rootL (frU y) (frV y)) y (smL 1) _) ?_)
   | (refine wpList_store_row rfl 39 (.tmp 2) (.tmp 59) rfl (w.heap.size + 1) _ rfl rfl 39 _ hz (rl_info _) (RL_sz _ _) (RL_one _) ?_))
  refine bodyPost_ret (results_row_slot (by rfl) _ _ (w.heap.size + 1) _ _ _ _ (.bool true) (by rfl) HGOT.out Tryz.underlying39 rfl (rl_info _) (by rfl)) rfl ?_
  exact ⟨⟨_, by rw [HDEC.out], fun _ => by first | rfl | rw [if_pos hoth] | rw [if_neg hoth]⟩, below_setRow HW.out (by omega) _⟩
 all_goals
  have hx0c := fun wx => neq_zero (rootL (frU y) (frV y)) wx
  rw [hx0] at hx0c
  have HX0 := yH hx0c
  clear hx0c hx0
 all_goals try
  clear m4
  go_wp2_with (first
   | (refine wpList_load_guarded (by rfl) 37 (.tmp 8) rfl (g8) rfl 37 _ h8 Tryz.underlying37 rfl (nw_info _) ?_)
   | (refine wpList_build0_guarded (by rfl) 37 rfl _ (nw_build _) ?_)
   | (refine wpList_binop _ .eql 37 37 (.tmp 46) (.tmp 47) rfl (by rfl) (.agg (Nw (nu (rootL (frU y) (frV y)))).toArray) (.agg (Nw 0).toArray) (.bool true) rfl rfl (ngrd _ _ _ _ _ _) (HX0.out _) ?_))
  refine (zr_ref _).mono ?_
  rintro e Wq8 ⟨rfl, hb⟩
  replace hb0 := hb0.belowAll hb
  replace hz := hz.belowAll hb
  replace h5 := h5.belowAll hb
  replace h6 := h6.belowAll hb
  replace h7 := h7.belowAll hb
  replace h8 := h8.belowAll hb
  replace hw := hw.trans (hb.mono hw.size)
  clear hb
  have hgot := setRow_heap _ (w.heap.size + 1) _ (RL ⟨zeL, smL 1, smL 1⟩).toArray _ _ hz
  have HGOT := yH hgot
  have HW := yH hw
  clear hgot hw
  go_wp2_with (first
   | (refine wpList_store_row rfl 39 (.tmp 2) (.tmp 51) rfl (w.heap.size + 1) _ rfl rfl 39 _ hz (rl_info _) (RL_sz _ _) (RL_one _) ?_))
  refine bodyPost_ret (results_row_slot (by rfl) _ _ (w.heap.size + 1) _ _ _ _ (.bool false) (by rfl) HGOT.out Tryz.underlying39 rfl (rl_info _) (by rfl)) rfl ?_
  exact ⟨⟨_, by rw [HDEC.out], fun h => absurd (HDEC.out.symm.trans h) (by decide)⟩, below_setRow HW.out (by omega) _⟩
 all_goals
  go_wp2_with (first
   | (refine wpList_load_guarded (by rfl) 37 (.tmp 8) rfl (g8) rfl 37 _ h8 Tryz.underlying37 rfl (nw_info _) ?_)
   | (refine wpList_load_row rfl 37 (.tmp 8) rfl (g8) rfl 37 _ (0, 0) _ h8 Tryz.underlying37 rfl (nw_info _) ?_)
   | (refine wpList_build0_guarded (by rfl) 37 rfl _ (nw_build _) ?_)
   | (refine wpList_binop _ .eql 37 37 (.tmp 46) (.tmp 47) rfl (by rfl) (.agg (Nw (nu (rootL (frU y) (frV y)))).toArray) (.agg (Nw 0).toArray) (.bool false) rfl rfl (ngrd _ _ _ _ _ _) (HX0.out _) ?_)
   | (refine wpList_build0 rfl 37 rfl _ (nw_build _) ?_))
  have hxk := rootL_ok (frU_ok hy) (frV_ok hy)
  refine (negr_nu hxk _).mono ?_
  rintro e Wq8 ⟨rfl, hb⟩
  replace hb0 := hb0.belowAll hb
  replace hz := hz.belowAll hb
  replace h5 := h5.belowAll hb
  replace h6 := h6.belowAll hb
  replace h7 := h7.belowAll hb
  replace h8 := h8.belowAll hb
  replace hw := hw.trans (hb.mono hw.size)
  clear hb
  have SET := yH h8
  replace hb0 := hb0.setRowOther (k := g8) ne_hb0_g8 (Nw (nu (negL (rootL (frU y) (frV y))))).toArray
  replace hz := hz.setRowOther (k := g8) ne_hz_g8 (Nw (nu (negL (rootL (frU y) (frV y))))).toArray
  replace h5 := h5.setRowOther (k := g8) ne_h5_g8 (Nw (nu (negL (rootL (frU y) (frV y))))).toArray
  replace h6 := h6.setRowOther (k := g8) ne_h6_g8 (Nw (nu (negL (rootL (frU y) (frV y))))).toArray
  replace h7 := h7.setRowOther (k := g8) ne_h7_g8 (Nw (nu (negL (rootL (frU y) (frV y))))).toArray
  replace h8 := h8.setRow (Nw (nu (negL (rootL (frU y) (frV y)))))
  replace hw := below_setRow (g := g8) hw ge_g8 (Nw (nu (negL (rootL (frU y) (frV y))))).toArray
  have hgot := setRow_heap _ (w.heap.size + 1) _ (RL ⟨(negL (rootL (frU y) (frV y))), y, smL 1⟩).toArray _ _ hz
  have HGOT := yH hgot
  have HW := yH hw
  clear hgot hw
  go_wp2_with (first
   | (refine wpList_store_row rfl 37 (.tmp 8) (.tmp 55) rfl g8 _ rfl rfl 37 _ SET.out (nw_info _) (Nw_sz _ _) (Nw_one _) ?_)
   | (refine wpList_load_row rfl 37 (.tmp 8) rfl (g8) rfl 37 _ (0, 0) _ h8 Tryz.underlying37 rfl (nw_info _) ?_)
   | (refine wpList_load_row rfl 37 (.tmp 5) rfl (g5) rfl 37 _ (0, 0) _ h5 Tryz.underlying37 rfl (nw_info _) ?_)
   | (refine wpList_load_row rfl 37 (.tmp 6) rfl (g6) rfl 37 _ (0, 0) _ h6 Tryz.underlying37 rfl (nw_info _) ?_)
   | (refine wpList_build3 rfl 39 (.tmp 56) (.tmp 57) (.tmp 58) rfl (.agg (Nw (nu (negL (rootL (frU y) (frV y))))).toArray) (.agg (Nw (nu y)).toArray) (.agg (Nw (nu (smL 1))).toArray) (.agg (RL ⟨(negL (rootL (frU y) (frV y))), y, smL 1⟩).toArray) rfl rfl rfl (rl_mk (negL (rootL (frU y) (frV y))) y (smL 1) _) ?_)
   | (refine wpList_store_row rfl 39 (.tmp 2) (.tmp 59) rfl (w.heap.size + 1) _ rfl rfl 39 _ hz (rl_info _) (RL_sz _ _) (RL_one _) ?_))
  refine bodyPost_ret (results_row_slot (by rfl) _ _ (w.heap.size + 1) _ _ _ _ (.bool true) (by rfl) HGOT.out Tryz.underlying39 rfl (rl_info _) (by rfl)) rfl ?_
  exact ⟨⟨_, by rw [HDEC.out], fun _ => by first | rfl | rw [if_pos hoth] | rw [if_neg hoth]⟩, below_setRow HW.out (by omega) _⟩
theorem dr_ref (N : Nat) (w : World) :
  Calls Tryz.prog 12 #[.agg (By N 32).toArray] w fun e w' => (∃ r : Rp, e = .returned (.tuple #[.agg (RL r).toArray, .bool (decOk N)])) ∧ Below w.heap.size w w' :=
 (drx_ref N w).mono fun _ _ h => ⟨⟨_, h.1.choose_spec.1⟩, h.2⟩
section
section
open Go.RowKit
theorem inv_1 : nu (invL (smL 1)) = 1 := by
 rw [nu_invP, nu_smL (by decide), Nat.one_pow]
 decide
theorem mul_inv_1 (x : Lm) : nu (mulL x (invL (smL 1))) = nu x := by rw [nu_mulP, inv_1, Nat.mul_one, nu_mod]
theorem dec_back {N : Nat} (hN : N < 256 ^ 32) (h : decOk N = true) : ptN (decPt N) = N := by
 have hd := h
 unfold decOk at hd
 rw [Bool.and_eq_true, Bool.and_eq_true] at hd
 obtain ⟨h1, h2, h3⟩ := hd
 have hM : N % 57896044618658097711785492504343953926634992332820282019728792003956564819968 < pp := of_decide_eq_true h2
 have hy : nu (ofB (N % 57896044618658097711785492504343953926634992332820282019728792003956564819968)) = N % 57896044618658097711785492504343953926634992332820282019728792003956564819968 := by
  rw [nu_ofB, Nat.mod_mod]
  exact Nat.mod_eq_of_lt hM
 have hyk := ofB_ok (N % 57896044618658097711785492504343953926634992332820282019728792003956564819968)
 unfold decPt
 rw [h, if_pos rfl]
 generalize ofB (N % 57896044618658097711785492504343953926634992332820282019728792003956564819968) = y at *
 have hxk := rootL_ok (frU_ok hyk) (frV_ok hyk)
 have hev := rootL_even (frU_ok hyk) (frV_ok hyk)
 generalize rootL (frU y) (frV y) = x at *
 unfold ptN atP
 show nu (mulL y (invL (smL 1))) + (if nu (mulL (if N / _ % 2 = 1 then negL x else x) (invL (smL 1))) % 2 = 1 then _ else 0) = N
 rw [mul_inv_1, mul_inv_1, hy]
 have hN2 : N / 57896044618658097711785492504343953926634992332820282019728792003956564819968 < 2 := by
  refine (Nat.div_lt_iff_lt_mul (by decide)).2 ?_
  exact Nat.lt_of_lt_of_le hN (by decide)
 have hdm := Nat.mod_add_div N 57896044618658097711785492504343953926634992332820282019728792003956564819968
 have hp2 : pp % 2 = 1 := by decide
 by_cases ho : N / 57896044618658097711785492504343953926634992332820282019728792003956564819968 % 2 = 1
 ·rw [if_pos ho, nu_negP hxk]
  rw [decide_eq_true ho, Bool.true_and, Bool.not_eq_true', decide_eq_false_iff_not] at h3
  have hl := nu_pp x
  have h4 : (pp - nu x) % pp = pp - nu x := Nat.mod_eq_of_lt (by omega)
  rw [h4, if_pos (by omega)]
  omega
 ·rw [if_neg ho, if_neg (by omega)]
  omega
instance : NeZero pp := ⟨by decide⟩
def fp (x : Lm) : Fin pp := ⟨nu x, nu_pp x⟩
theorem fp_ext {x y : Lm} : fp x = fp y ↔ nu x = nu y := ⟨fun h => congrArg Fin.val h, fun h => Fin.ext h⟩
theorem fp_mul (x y : Lm) : fp (mulL x y) = fp x * fp y := Fin.ext (by rw [Fin.val_mul]; exact nu_mulP x y)
theorem fp_add (x y : Lm) : fp (addL x y) = fp x + fp y := Fin.ext (by rw [Fin.val_add]; exact nu_addP x y)
theorem fp_sub (x : Lm) {y : Lm} (hy : y.ok) : fp (subL x y) = fp x - fp y := Fin.ext (by
 rw [Fin.sub_def]
 show nu (subL x y) = (pp - nu y + nu x) % pp
 rw [nu_subP x hy, Nat.add_comm])
theorem fp_neg {x : Lm} (hx : x.ok) : fp (negL x) = -fp x := Fin.ext (by
 show nu (negL x) = (pp - nu x) % pp
 exact nu_negP hx)
theorem fp_sm (n : Nat) (h : n < 4294967296) : (fp (smL n)).val = n := nu_smL h
theorem fp_0 : fp (smL 0) = 0 := Fin.ext (by rw [fp_sm 0 (by decide)]; rfl)
theorem fp_1 : fp (smL 1) = 1 := Fin.ext (by rw [fp_sm 1 (by decide)]; decide)
theorem fp_dom {a b : Fin pp} (h : a * b = 0) : a = 0 ∨ b = 0 := by
 have h1 : a.val * b.val % pp = 0 := by
  have := congrArg Fin.val h
  rwa [Fin.val_mul] at this
 rcases pp_prime.mul h1 with h2 | h2
 ·left; exact Fin.ext (by rw [Nat.mod_eq_of_lt a.isLt] at h2; exact h2)
 ·right; exact Fin.ext (by rw [Nat.mod_eq_of_lt b.isLt] at h2; exact h2)
end
section
open Go.RowKit
theorem ad_x {p q : Pm} (hp : p.ok) (hq : q.ok) : fp (adP p q).x = (fp (plA p q) - fp (miA p q)) * (fp (onA p q) - fp (moA p q)) := by
 show fp (mulL (subL (plA p q) (miA p q)) (subL (onA p q) (moA p q))) = _
 rw [fp_mul, fp_sub _ (miA_ok hp hq), fp_sub _ (moA_ok hp hq)]
theorem ad_y {p q : Pm} (hp : p.ok) (hq : q.ok) : fp (adP p q).y = (fp (plA p q) + fp (miA p q)) * (fp (onA p q) + fp (moA p q)) := by
 show fp (mulL (addL (plA p q) (miA p q)) (addL (onA p q) (moA p q))) = _
 rw [fp_mul, fp_add, fp_add]
theorem ad_z {p q : Pm} (hp : p.ok) (hq : q.ok) : fp (adP p q).z = (fp (onA p q) + fp (moA p q)) * (fp (onA p q) - fp (moA p q)) := by
 show fp (mulL (addL (onA p q) (moA p q)) (subL (onA p q) (moA p q))) = _
 rw [fp_mul, fp_add, fp_sub _ (moA_ok hp hq)]
theorem ad_t {p q : Pm} (hp : p.ok) (hq : q.ok) : fp (adP p q).t = (fp (plA p q) - fp (miA p q)) * (fp (plA p q) + fp (miA p q)) := by
 show fp (mulL (subL (plA p q) (miA p q)) (addL (plA p q) (miA p q))) = _
 rw [fp_mul, fp_add, fp_sub _ (miA_ok hp hq)]
theorem pl_f (p q : Pm) : fp (plA p q) = (fp p.y + fp p.x) * (fp q.y + fp q.x) := by unfold plA; rw [fp_mul, fp_add, fp_add]
theorem mi_f {p q : Pm} (hp : p.ok) (hq : q.ok) : fp (miA p q) = (fp p.y - fp p.x) * (fp q.y - fp q.x) := by unfold miA; rw [fp_mul, fp_sub _ hp.x, fp_sub _ hq.x]
theorem on_f (p q : Pm) : fp (onA p q) = fp p.z * fp q.z + fp p.z * fp q.z := by unfold onA; rw [fp_add, fp_mul]
theorem mo_f (p q : Pm) : fp (moA p q) = fp p.t * fp q.t * fp dL + fp p.t * fp q.t * fp dL := by unfold moA; rw [fp_add, fp_mul, fp_mul]
theorem un_f {p : Pm} (hp : p.ok) : fp (unD p) = fp p.y * fp p.y - fp p.x * fp p.x := by unfold unD; rw [fp_sub _ (mulL_ok hp.x hp.x), fp_mul, fp_mul]
theorem do_x {p : Pm} (hp : p.ok) : fp (doP p).x = (fp p.x * fp p.y + fp p.x * fp p.y) * (fp p.z * fp p.z + fp p.z * fp p.z - fp (unD p)) := by
 show fp (mulL (addL (mulL p.x p.y) (mulL p.x p.y)) (subL (addL (mulL p.z p.z) (mulL p.z p.z)) (unD p))) = _
 rw [fp_mul, fp_add, fp_mul, fp_sub _ (unD_ok hp), fp_add, fp_mul]
theorem do_y {p : Pm} (hp : p.ok) : fp (doP p).y = (fp p.y * fp p.y + fp p.x * fp p.x) * fp (unD p) := by
 show fp (mulL (addL (mulL p.y p.y) (mulL p.x p.x)) (unD p)) = _
 rw [fp_mul, fp_add, fp_mul, fp_mul]
theorem do_z {p : Pm} (hp : p.ok) : fp (doP p).z = fp (unD p) * (fp p.z * fp p.z + fp p.z * fp p.z - fp (unD p)) := by
 show fp (mulL (unD p) (subL (addL (mulL p.z p.z) (mulL p.z p.z)) (unD p))) = _
 rw [fp_mul, fp_sub _ (unD_ok hp), fp_add, fp_mul]
theorem do_t {p : Pm} (hp : p.ok) : fp (doP p).t = (fp p.x * fp p.y + fp p.x * fp p.y) * (fp p.y * fp p.y + fp p.x * fp p.x) := by
 show fp (mulL (addL (mulL p.x p.y) (mulL p.x p.y)) (addL (mulL p.y p.y) (mulL p.x p.x))) = _
 rw [fp_mul, fp_add, fp_add, fp_mul, fp_mul, fp_mul]
structure Zl (p : Pm) : Prop where
 x : fp p.x = 0
 t : fp p.t = 0
 yz : fp p.y = fp p.z
 z : fp p.z ≠ 0
theorem two_ne : (2 : Fin pp) ≠ 0 := by decide
theorem sq_ne {a : Fin pp} (h : a ≠ 0) : a * a ≠ 0 := fun e => by rcases fp_dom e with e | e <;> exact h e
theorem mul_ne {a b : Fin pp} (h : a ≠ 0) (k : b ≠ 0) : a * b ≠ 0 := fun e => by
 rcases fp_dom e with e | e
 ·exact h e
 ·exact k e
theorem ze_x : fp ze1.x = 0 := fp_0
theorem ze_y : fp ze1.y = 1 := fp_1
theorem ze_z : fp ze1.z = 1 := fp_1
theorem ze_t : fp ze1.t = 0 := by
 show fp (mulL (smL 0) (smL 1)) = 0
 rw [fp_mul, fp_0, fp_1]
 rfl
theorem zl_ze : Zl ze1 := ⟨ze_x, ze_t, by rw [ze_y, ze_z], by rw [ze_z]; decide⟩
theorem zl_do {p : Pm} (hp : p.ok) (h : Zl p) : Zl (doP p) := by
 obtain ⟨h1, h2, h3, h4⟩ := h
 have hu := un_f hp
 rw [h1, h3] at hu
 have e4 : fp (doP p).z = fp p.z * fp p.z * (fp p.z * fp p.z) := by rw [do_z hp, hu]; grind
 refine ⟨by rw [do_x hp, h1]; grind, by rw [do_t hp, h1]; grind, ?_, ?_⟩
 ·rw [e4, do_y hp, hu, h1, h3]; grind
 ·rw [e4]; exact mul_ne (sq_ne h4) (sq_ne h4)
theorem zl_ad {p : Pm} (hp : p.ok) (h : Zl p) : Zl (adP p ze1) := by
 obtain ⟨h1, h2, h3, h4⟩ := h
 have hpl := pl_f p ze1
 have hmi := mi_f hp ze1_ok
 have hon := on_f p ze1
 have hmo := mo_f p ze1
 rw [h1, h3, ze_x, ze_y] at hpl hmi
 rw [ze_z] at hon
 rw [h2, ze_t] at hmo
 have e4 : fp (adP p ze1).z = (2 * fp p.z) * (2 * fp p.z) := by rw [ad_z hp ze1_ok, hon, hmo]; grind
 refine ⟨by rw [ad_x hp ze1_ok, hpl, hmi]; grind, by rw [ad_t hp ze1_ok, hpl, hmi]; grind, ?_, ?_⟩
 ·rw [e4, ad_y hp ze1_ok, hpl, hmi, hon, hmo]; grind
 ·rw [e4]; exact sq_ne (mul_ne two_ne h4)
theorem zl_do4 {p : Pm} (hp : p.ok) (h : Zl p) : Zl (do4 p) :=
 zl_do (doP_ok (doP_ok (doP_ok hp))) (zl_do (doP_ok (doP_ok hp)) (zl_do (doP_ok hp) (zl_do hp h)))
theorem dig_0 {m : Nat} (hm : 1 ≤ m) : digP (2, baP) m = ze1 := by
 unfold digP
 have h : 2 / 2 ^ (4 * m) % 16 = 0 := by
  rw [Nat.div_eq_of_lt]
  calc 2 < 2 ^ 4 := by decide
   _ ≤ 2 ^ (4 * m) := Nat.pow_le_pow_right (by decide) (by omega)
 show tabP baP (2 / 2 ^ (4 * m) % 16) = ze1
 rw [h]
 rfl
theorem l_ok : ∀ s ∈ [((2, baP) : Shr)], s.2.ok := fun s hs => by rw [List.mem_singleton.1 hs]; exact baP_ok
theorem tog_zl : ∀ k, k ≤ 63 → Zl (togU [(2, baP)] k) := by
 intro k
 induction k with
 | zero => intro _; rw [togU]; exact zl_ze
 | succ k ih =>
  intro hk
  have h := ih (by omega)
  rw [togU, addS_cons, addS_nil, dig_0 (by omega)]
  exact zl_ad (do4_ok (togU_ok _ l_ok k)) (zl_do4 (togU_ok _ l_ok k) h)
theorem mu_2 : ∃ z, z.ok ∧ Zl z ∧ muP baP 2 = adP z (adP (adP ze1 baP) baP) := by
 refine ⟨do4 (togU [(2, baP)] 63), do4_ok (togU_ok _ l_ok 63), zl_do4 (togU_ok _ l_ok 63) (tog_zl 63 (Nat.le_refl _)), ?_⟩
 have h2 : digP (2, baP) (63 - 63) = adP (adP ze1 baP) baP := rfl
 unfold muP togP
 rw [togU, addS_cons, addS_nil, h2]
theorem ba_x : fp baP.x = ⟨bxN, by decide⟩ := Fin.ext (by
 show nu (ofB bxN) = bxN
 rw [nu_ofB]
 decide)
theorem ba_y : fp baP.y = ⟨byN, by decide⟩ := Fin.ext (by
 show nu (ofB byN) = byN
 rw [nu_ofB]
 decide)
theorem d_f : fp dL = ⟨dN, by decide⟩ := Fin.ext (by
 show nu (ofB dN) = dN
 rw [nu_ofB]
 decide)
theorem ba_z : fp baP.z = 1 := fp_1
theorem ba_t : fp baP.t = fp baP.x * fp baP.y := by
 show fp (mulL (ofB bxN) (ofB byN)) = _
 rw [fp_mul]
 rfl
theorem ba_curve : fp baP.y * fp baP.y - fp baP.x * fp baP.x = 1 + fp dL * (fp baP.x * fp baP.x) * (fp baP.y * fp baP.y) := by
 rw [ba_x, ba_y, d_f]
 decide +kernel
theorem txl (x y d : Fin pp) : ((2 * 2 * y + 2 * 2 * x) * (y + x) - (2 * 2 * y - 2 * 2 * x) * (y - x)) * (2 * 2 * 1 + 2 * 2 * 1 - (2 * 2 * x * y * (x * y) * d + 2 * 2 * x * y * (x * y) * d)) = (2 * 2 * 2 * 2 * 2 * 2 * 2) * (x * y) * (1 - d * (x * x) * (y * y)) := by grind
theorem tyl (x y d : Fin pp) : ((2 * 2 * y + 2 * 2 * x) * (y + x) + (2 * 2 * y - 2 * 2 * x) * (y - x)) * (2 * 2 * 1 + 2 * 2 * 1 + (2 * 2 * x * y * (x * y) * d + 2 * 2 * x * y * (x * y) * d)) = (2 * 2 * 2 * 2 * 2 * 2) * (x * x + y * y) * (1 + d * (x * x) * (y * y)) := by grind
theorem tzl (x y d : Fin pp) : (2 * 2 * 1 + 2 * 2 * 1 + (2 * 2 * x * y * (x * y) * d + 2 * 2 * x * y * (x * y) * d)) * (2 * 2 * 1 + 2 * 2 * 1 - (2 * 2 * x * y * (x * y) * d + 2 * 2 * x * y * (x * y) * d)) = (2 * 2 * 2 * 2 * 2 * 2) * ((1 + d * (x * x) * (y * y)) * (1 - d * (x * x) * (y * y))) := by grind
theorem twice : sameB (muP baP 2) (doP baP) = true := by
 obtain ⟨z, hz, hzl, he⟩ := mu_2
 obtain ⟨h1, h2, h3, h4⟩ := hzl
 rw [he]
 have hB := baP_ok
 have hS := adP_ok ze1_ok hB
 have hT := adP_ok hS hB
 have hc := ba_curve
 have sx := ad_x ze1_ok hB
 have sy := ad_y ze1_ok hB
 have sz := ad_z ze1_ok hB
 have st := ad_t ze1_ok hB
 rw [pl_f, mi_f ze1_ok hB] at sx sy st
 rw [on_f, mo_f] at sx sy sz
 have tx := ad_x hS hB
 have ty := ad_y hS hB
 have tz := ad_z hS hB
 rw [pl_f, mi_f hS hB] at tx ty
 rw [on_f, mo_f] at tx ty tz
 have ux := ad_x hz hT
 have uy := ad_y hz hT
 have uz := ad_z hz hT
 rw [pl_f, mi_f hz hT] at ux uy
 rw [on_f, mo_f] at ux uy uz
 have dx := do_x hB
 have dy := do_y hB
 have dz := do_z hB
 rw [un_f hB] at dx dy dz
 rw [ba_z] at sx sy sz tx ty tz dx dz
 rw [ba_t] at sx sy sz tx ty tz
 rw [ze_x, ze_y] at sx sy st
 rw [ze_z, ze_t] at sx sy sz
 rw [h1, h3] at ux uy
 rw [h2] at ux uy uz
 unfold sameB
 rw [Bool.and_eq_true]
 generalize adP z (adP (adP ze1 baP) baP) = U at *
 generalize adP (adP ze1 baP) baP = T at *
 generalize adP ze1 baP = Q at *
 generalize doP baP = D at *
 generalize baP = B at *
 generalize fp B.x = x at *
 generalize fp B.y = y at *
 generalize fp dL = d at *
 have hsx : fp Q.x = (2 * 2) * x := by rw [sx]; grind
 have hsy : fp Q.y = (2 * 2) * y := by rw [sy]; grind
 have hsz : fp Q.z = 2 * 2 := by rw [sz]; grind
 have hst : fp Q.t = (2 * 2) * x * y := by rw [st]; grind
 rw [hsx, hsy, hsz, hst] at tx ty
 rw [hsz, hst] at tz
 have e1 : y * y - x * x = 1 + d * (x * x) * (y * y) := hc
 generalize he2 : d * (x * x) * (y * y) = e at *
 have htx : fp T.x = (2 * 2 * 2 * 2 * 2 * 2 * 2) * (x * y) * (1 - e) := by rw [tx, ← he2]; exact txl _ _ _
 have hty : fp T.y = (2 * 2 * 2 * 2 * 2 * 2) * (x * x + y * y) * (1 + e) := by rw [ty, ← he2]; exact tyl _ _ _
 have htz : fp T.z = (2 * 2 * 2 * 2 * 2 * 2) * ((1 + e) * (1 - e)) := by rw [tz, ← he2]; exact tzl _ _ _
 have hux : fp U.x = (2 * 2) * (fp z.z * fp z.z) * (fp T.x * fp T.z) := by rw [ux]; grind
 have huy : fp U.y = (2 * 2) * (fp z.z * fp z.z) * (fp T.y * fp T.z) := by rw [uy]; grind
 have huz : fp U.z = (2 * 2) * (fp z.z * fp z.z) * (fp T.z * fp T.z) := by rw [uz]; grind
 rw [e1] at dx dy dz
 have hdx : fp D.x = 2 * (x * y) * (1 - e) := by rw [dx]; grind
 have hdy : fp D.y = (x * x + y * y) * (1 + e) := by rw [dy]; grind
 have hdz : fp D.z = (1 + e) * (1 - e) := by rw [dz]; grind
 constructor
 ·refine decide_eq_true (fp_ext.1 ?_)
  rw [fp_mul, fp_mul, hux, huz, hdx, hdz, htx, htz]
  grind
 ·refine decide_eq_true (fp_ext.1 ?_)
  rw [fp_mul, fp_mul, huy, huz, hdy, hdz, hty, htz]
  grind
end
section
open Go.RowKit
theorem decPt_ok (N : Nat) : (decPt N).ok := by
 unfold decPt
 split
 ·refine atP_ok ?_ (ofB_ok _)
  split
  ·exact negL_ok _
  ·exact rootL_ok (frU_ok (ofB_ok _)) (frV_ok (ofB_ok _))
 ·exact ze1_ok
end
end
end Go.Proofs.YtnpjecdodhkplaaGreatDoor
