/- The document's points: D, Zero, Decode. -/
import Derived.Test.YthpbipebpaeagaaDoorFnF
import Derived.Test.YthpbipebpaeagaaDoorRo
import Derived.Test.YthpbipebpaeagaaDoorNu
namespace Go.Proofs.YthpbipebpaeagaaDoor
set_option maxRecDepth 100000
set_option linter.unusedSimpArgs false
set_option linter.unusedVariables false
open Go.RowKit

/-- A point of the document, its coordinates told by the program's numbers. -/
structure Rp where
  x : Lm
  y : Lm
  z : Lm
def RL (r : Rp) : List Value := Nw (nu r.x) ++ (Nw (nu r.y) ++ Nw (nu r.z))
def zeR : Rp := ⟨zeL, zeL, zeL⟩
theorem RL_length (r : Rp) : (RL r).length = 24 := by unfold RL; simp [Nw_length]
theorem RL_sz (r q : Rp) : (RL r).toArray.size = (RL q).toArray.size := by rw [List.size_toArray, List.size_toArray, RL_length, RL_length]
theorem RL_one (r : Rp) : (RL r).toArray.all (·.oneCell') = true := by
  rw [List.all_toArray, List.all_eq_true]
  intro v hv
  have hn : ∀ N, ∀ v ∈ Nw N, v.oneCell' = true := fun N v hv => Tabs_ones .u32 (dw N) 8 v hv
  unfold RL at hv
  rcases List.mem_append.1 hv with h | h
  · exact hn _ v h
  · rcases List.mem_append.1 h with h | h
    · exact hn _ v h
    · exact hn _ v h
theorem RL_zero : RL zeR = [.int .u32 0, .int .u32 0, .int .u32 0, .int .u32 0, .int .u32 0, .int .u32 0, .int .u32 0, .int .u32 0, .int .u32 0, .int .u32 0, .int .u32 0, .int .u32 0, .int .u32 0, .int .u32 0, .int .u32 0, .int .u32 0, .int .u32 0, .int .u32 0, .int .u32 0, .int .u32 0, .int .u32 0, .int .u32 0, .int .u32 0, .int .u32 0] := by
  unfold RL zeR
  rw [nu_zeL, Nw_zero]
  rfl
theorem rl_size : (Tryd.prog.info? 62).map (·.size) = some 24 := by kernel_rfl
theorem rl_info (r : Rp) : (Tryd.prog.info? 62).map (·.size) = some (RL r).toArray.size := rl_size.trans (by rw [List.size_toArray, RL_length])
theorem rl_build (a b c : Nat) (w : World) : (Instr.build 62 #[(0, .agg (Nw a).toArray), (1, .agg (Nw b).toArray), (2, .agg (Nw c).toArray)]).run Tryd.prog w = .ok (.agg (Nw a ++ (Nw b ++ Nw c)).toArray) w := run_build w 62 _ _ (by kernel_rfl)
theorem rl_mk (x y z : Lm) (w : World) : (Instr.build 62 #[(0, .agg (Nw (nu x)).toArray), (1, .agg (Nw (nu y)).toArray), (2, .agg (Nw (nu z)).toArray)]).run Tryd.prog w = .ok (.agg (RL ⟨x, y, z⟩).toArray) w := rl_build _ _ _ w
theorem rl_mk0 (y z : Lm) (w : World) : (Instr.build 62 #[(0, .agg (Nw 0).toArray), (1, .agg (Nw (nu y)).toArray), (2, .agg (Nw (nu z)).toArray)]).run Tryd.prog w = .ok (.agg (RL ⟨zeL, y, z⟩).toArray) w := by
  have h := rl_build 0 (nu y) (nu z) w
  unfold RL
  rw [nu_zeL]
  exact h
theorem wpList_build3 {P : Program} {ops : Array Oper} {Q : Exit → Act → World → Prop} {rest : List Oper} {o : Oper} {a : Act} {w : World} (hgd : o.guard = none) (T : TypeId) (x0 x1 x2 : Operand) (ho : o.op = .build T #[(0, x0), (1, x1), (2, x2)]) (u0 u1 u2 v : Value) (h0 : a.eval x0 = u0) (h1 : a.eval x1 = u1) (h2 : a.eval x2 = u2)
    (hrun : (Instr.build T #[(0, u0), (1, u1), (2, u2)]).run P w = .ok v w) (h : wpList P ops Q rest (a.put o.dst v) w) : wpList P ops Q (o :: rest) a w := by
  refine wpList_plain hgd fun _ hK => ?_
  unfold Oper.wp execOp
  simp only [ho, Sem.run_bind, Sem.run_pure, List.map_toArray, List.map_cons, List.map_nil, h0, h1, h2, hrun, Result.andThen_ok]
  exact hK _ _ h
theorem wpList_build0_guarded {P : Program} {ops : Array Oper} {rest : List Oper} {o : Oper} {a : Act} {w : World} {Q : Exit → Act → World → Prop} (hw : Region.wanted o (yielded ops a.tmps) = true) (T : TypeId) (ho : o.op = .build T #[]) (v : Value) (hrun : (Instr.build T #[]).run P w = .ok v w)
    (h : wpList P ops Q rest (a.put o.dst v) w) : wpList P ops Q (o :: rest) a w := by
  refine BigFrame.wpList_want hw fun _ hK => ?_
  unfold Oper.wp execOp
  simp only [ho, Sem.run_bind, Sem.run_pure, List.map_toArray, List.map_nil, hrun, Result.andThen_ok]
  exact hK _ _ h
/-- The curve's number. -/
theorem d_eq : nu (mulL (negL (smL 121665)) (invL (smL 121666))) = nu dL := by
  have h1 : 121666 * 121666 ^ (pp - 2) % pp = 1 := inv_mul pp_prime (by decide)
  have h2 : dN * 121666 % pp = pp - 121665 := by decide
  have h3 : nu dL = dN := by
    unfold dL
    rw [nu_ofB]
    decide
  rw [nu_mulP, nu_negP (smL_ok (by decide)), nu_invP, nu_smL (by decide), nu_smL (by decide), h3, Nat.mod_mul_mod, Nat.mul_mod_mod, ← h2, Nat.mod_mul_mod, Nat.mul_assoc, Nat.mul_mod, h1, Nat.mul_one, Nat.mod_mod]
  decide

set_option maxHeartbeats 3200000 in
theorem d_ref  (w : World) :
    Calls Tryd.prog 52 #[] w fun e w' => e = .returned (.agg (Nw (nu dL)).toArray) ∧ Below w.heap.size w w' := by
  have hz : Row (w.alloc (.cells #[.int .u32 0, .int .u32 0, .int .u32 0, .int .u32 0, .int .u32 0, .int .u32 0, .int .u32 0, .int .u32 0] 30)) (w.heap.size) 30 (Nw 0) := by
    rw [Nw_zero]
    exact Row.new w _ _
  have hw := Below.alloc1 w (.cells #[.int .u32 0, .int .u32 0, .int .u32 0, .int .u32 0, .int .u32 0, .int .u32 0, .int .u32 0, .int .u32 0] 30)
  go_enter Tryd.func52, Tryd.ntmps52
  go_wp2_with (refine wpList_build0 rfl 30 rfl _ (nw_build _) ?_)
  refine (smallr_nu 121665 (by decide) _).mono ?_
  rintro e W1 ⟨rfl, hb⟩
  replace hz := hz.belowAll hb
  replace hw := hw.trans (hb.mono hw.size)
  clear hb
  go_wp2_with fail
  refine (negr_nu (smL_ok (by decide)) _).mono ?_
  rintro e W2 ⟨rfl, hb⟩
  replace hz := hz.belowAll hb
  replace hw := hw.trans (hb.mono hw.size)
  clear hb
  go_wp2_with fail
  refine (smallr_nu 121666 (by decide) _).mono ?_
  rintro e W3 ⟨rfl, hb⟩
  replace hz := hz.belowAll hb
  replace hw := hw.trans (hb.mono hw.size)
  clear hb
  go_wp2_with fail
  refine (invr_nu (smL 121666) _).mono ?_
  rintro e W4 ⟨rfl, hb⟩
  replace hz := hz.belowAll hb
  replace hw := hw.trans (hb.mono hw.size)
  clear hb
  go_wp2_with fail
  refine (mulr_nu (negL (smL 121665)) (invL (smL 121666)) _).mono ?_
  rintro e W5 ⟨rfl, hb⟩
  replace hz := hz.belowAll hb
  replace hw := hw.trans (hb.mono hw.size)
  clear hb
  rw [d_eq]
  have hgot := setRow_heap _ (w.heap.size) _ (Nw (nu dL)).toArray _ _ hz
  have HGOT := Lib.hid hgot
  have HW := Lib.hid hw
  clear hgot hw
  go_wp2_with (first
    | (refine wpList_store_row rfl 30 (.tmp 0) (.tmp 6) rfl (w.heap.size) _ rfl rfl 30 _ hz (nw_info _) (Nw_sz _ _) (Nw_one _) ?_))
  refine bodyPost_ret (results_cell_row (by rfl) _ _ (w.heap.size) _ _ _ _ (by rfl) HGOT.out Tryd.underlying30 rfl (nw_info _)) rfl ?_
  exact ⟨rfl, below_setRow HW.out (by omega) _⟩

set_option maxHeartbeats 3200000 in
theorem zr_ref  (w : World) :
    Calls Tryd.prog 79 #[] w fun e w' => e = .returned (.agg (RL ⟨zeL, smL 1, smL 1⟩).toArray) ∧ Below w.heap.size w w' := by
  have hz : Row (w.alloc (.cells #[.int .u32 0, .int .u32 0, .int .u32 0, .int .u32 0, .int .u32 0, .int .u32 0, .int .u32 0, .int .u32 0, .int .u32 0, .int .u32 0, .int .u32 0, .int .u32 0, .int .u32 0, .int .u32 0, .int .u32 0, .int .u32 0, .int .u32 0, .int .u32 0, .int .u32 0, .int .u32 0, .int .u32 0, .int .u32 0, .int .u32 0, .int .u32 0] 62)) (w.heap.size) 62 (RL zeR) := by
    rw [RL_zero]
    exact Row.new w _ _
  have hw := Below.alloc1 w (.cells #[.int .u32 0, .int .u32 0, .int .u32 0, .int .u32 0, .int .u32 0, .int .u32 0, .int .u32 0, .int .u32 0, .int .u32 0, .int .u32 0, .int .u32 0, .int .u32 0, .int .u32 0, .int .u32 0, .int .u32 0, .int .u32 0, .int .u32 0, .int .u32 0, .int .u32 0, .int .u32 0, .int .u32 0, .int .u32 0, .int .u32 0, .int .u32 0] 62)
  go_enter Tryd.func79, Tryd.ntmps79
  go_wp2_with (refine wpList_build0 rfl 30 rfl _ (nw_build _) ?_)
  refine (smallr_nu 1 (by decide) _).mono ?_
  rintro e W1 ⟨rfl, hb⟩
  replace hz := hz.belowAll hb
  replace hw := hw.trans (hb.mono hw.size)
  clear hb
  go_wp2_with fail
  refine (smallr_nu 1 (by decide) _).mono ?_
  rintro e W2 ⟨rfl, hb⟩
  replace hz := hz.belowAll hb
  replace hw := hw.trans (hb.mono hw.size)
  clear hb
  have hgot := setRow_heap _ (w.heap.size) _ (RL ⟨zeL, smL 1, smL 1⟩).toArray _ _ hz
  have HGOT := Lib.hid hgot
  have HZ := Lib.hid hz
  have HW := Lib.hid hw
  clear hgot hw hz
  go_wp2_with (first
    | (refine wpList_build3 rfl 62 (.tmp 1) (.tmp 2) (.tmp 3) rfl (.agg (Nw 0).toArray) (.agg (Nw (nu (smL 1))).toArray) (.agg (Nw (nu (smL 1))).toArray) _ rfl rfl rfl (rl_mk0 _ _ _) ?_)
    | (refine wpList_store_row rfl 62 (.tmp 0) (.tmp 4) rfl (w.heap.size) _ rfl rfl 62 _ HZ.out (rl_info _) (RL_sz _ _) (RL_one _) ?_))
  refine bodyPost_ret (results_cell_row (by rfl) _ _ (w.heap.size) _ _ _ _ (by rfl) HGOT.out Tryd.underlying62 rfl (rl_info _)) rfl ?_
  exact ⟨rfl, below_setRow HW.out (by omega) _⟩

theorem ge_hi_true {N : Nat} (h : N / 57896044618658097711785492504343953926634992332820282019728792003956564819968 % 2 = 1) : (128 : Int) ≤ ((byt N 31 : Nat) : Int) := by
  have h2 := byt_hi N
  have h3 := byt_lt N 31
  omega
theorem ge_hi_false {N : Nat} (h : ¬ N / 57896044618658097711785492504343953926634992332820282019728792003956564819968 % 2 = 1) : ((byt N 31 : Nat) : Int) < 128 := by
  have h2 := byt_hi N
  have h3 := byt_lt N 31
  omega

set_option maxHeartbeats 12800000 in
theorem drx_ref (N : Nat) (w : World) :
    Calls Tryd.prog 43 #[.agg (By N 32).toArray] w fun e w' => (∃ r : Rp, e = .returned (.tuple #[.agg (RL r).toArray, .bool (decOk N)]) ∧ (decOk N = true → r = ⟨if N / 57896044618658097711785492504343953926634992332820282019728792003956564819968 % 2 = 1 then negL (rootL (frU (ofB (N % 57896044618658097711785492504343953926634992332820282019728792003956564819968))) (frV (ofB (N % 57896044618658097711785492504343953926634992332820282019728792003956564819968)))) else rootL (frU (ofB (N % 57896044618658097711785492504343953926634992332820282019728792003956564819968))) (frV (ofB (N % 57896044618658097711785492504343953926634992332820282019728792003956564819968))), ofB (N % 57896044618658097711785492504343953926634992332820282019728792003956564819968), smL 1⟩)) ∧ Below w.heap.size w w' := by
  have HMM := Lib.hid (show N % 57896044618658097711785492504343953926634992332820282019728792003956564819968 < 256 ^ 32 from Nat.lt_trans (Nat.mod_lt _ (by decide)) (by decide))
  by_cases hoth : N / 57896044618658097711785492504343953926634992332820282019728792003956564819968 % 2 = 1
  · by_cases hcan : decide (N % 57896044618658097711785492504343953926634992332820282019728792003956564819968 < pp) = true
    · by_cases hok : rootOk (frU (ofB (N % 57896044618658097711785492504343953926634992332820282019728792003956564819968))) (frV (ofB (N % 57896044618658097711785492504343953926634992332820282019728792003956564819968))) = true
      · by_cases hx0 : decide (nu (rootL (frU (ofB (N % 57896044618658097711785492504343953926634992332820282019728792003956564819968))) (frV (ofB (N % 57896044618658097711785492504343953926634992332820282019728792003956564819968)))) = 0) = true
        · have HDEC := Lib.hid (show decOk N = false by unfold decOk; rw [hok, hcan, hx0, decide_eq_true hoth]; rfl)
          have hc := byt_lt N 31
          have hset := By_set31 N
          have hcell := ((Row.new w (By N 32) 22).alloc (.cells #[.int .u32 0, .int .u32 0, .int .u32 0, .int .u32 0, .int .u32 0, .int .u32 0, .int .u32 0, .int .u32 0, .int .u32 0, .int .u32 0, .int .u32 0, .int .u32 0, .int .u32 0, .int .u32 0, .int .u32 0, .int .u32 0, .int .u32 0, .int .u32 0, .int .u32 0, .int .u32 0, .int .u32 0, .int .u32 0, .int .u32 0, .int .u32 0] 62)).cell (By_get N 32 (k := 31) (by decide))
          have hfree := ((Row.new w (By N 32) 22).alloc (.cells #[.int .u32 0, .int .u32 0, .int .u32 0, .int .u32 0, .int .u32 0, .int .u32 0, .int .u32 0, .int .u32 0, .int .u32 0, .int .u32 0, .int .u32 0, .int .u32 0, .int .u32 0, .int .u32 0, .int .u32 0, .int .u32 0, .int .u32 0, .int .u32 0, .int .u32 0, .int .u32 0, .int .u32 0, .int .u32 0, .int .u32 0, .int .u32 0] 62)).free 31
          have hge := ge_hi_true hoth
          have e31 : (((byt N 31 : Nat) : Int) % 128) = ((byt N 31 % 128 : Nat) : Int) := by omega
          have hb0 : Row ((w.alloc (.cells ((By N 32).set 31 (.int .u8 (((byt N 31 : Nat) : Int) % 128))).toArray 22)).alloc (.cells #[.int .u32 0, .int .u32 0, .int .u32 0, .int .u32 0, .int .u32 0, .int .u32 0, .int .u32 0, .int .u32 0, .int .u32 0, .int .u32 0, .int .u32 0, .int .u32 0, .int .u32 0, .int .u32 0, .int .u32 0, .int .u32 0, .int .u32 0, .int .u32 0, .int .u32 0, .int .u32 0, .int .u32 0, .int .u32 0, .int .u32 0, .int .u32 0] 62)) w.heap.size 22 (By (N % 57896044618658097711785492504343953926634992332820282019728792003956564819968) 32) := by
            rw [e31, hset]
            exact (Row.new w _ 22).alloc _
          have hz : Row ((w.alloc (.cells ((By N 32).set 31 (.int .u8 (((byt N 31 : Nat) : Int) % 128))).toArray 22)).alloc (.cells #[.int .u32 0, .int .u32 0, .int .u32 0, .int .u32 0, .int .u32 0, .int .u32 0, .int .u32 0, .int .u32 0, .int .u32 0, .int .u32 0, .int .u32 0, .int .u32 0, .int .u32 0, .int .u32 0, .int .u32 0, .int .u32 0, .int .u32 0, .int .u32 0, .int .u32 0, .int .u32 0, .int .u32 0, .int .u32 0, .int .u32 0, .int .u32 0] 62)) (w.heap.size + 1) 62 (RL zeR) := by
            rw [RL_zero]
            exact Row.new1 w _ _ _
          have hw := Below.alloc2 w (.cells ((By N 32).set 31 (.int .u8 (((byt N 31 : Nat) : Int) % 128))).toArray 22) (.cells #[.int .u32 0, .int .u32 0, .int .u32 0, .int .u32 0, .int .u32 0, .int .u32 0, .int .u32 0, .int .u32 0, .int .u32 0, .int .u32 0, .int .u32 0, .int .u32 0, .int .u32 0, .int .u32 0, .int .u32 0, .int .u32 0, .int .u32 0, .int .u32 0, .int .u32 0, .int .u32 0, .int .u32 0, .int .u32 0, .int .u32 0, .int .u32 0] 62)
          clear hset e31
          generalize N % 57896044618658097711785492504343953926634992332820282019728792003956564819968 = M at *
          generalize byt N 31 = c at *
          have hraw := fun wx => raw_ref M HMM.out wx
          have hless := fun wx => less_is (show M < W8 from HMM.out) pp_W8 hcan wx
          have hof := fun wx => ofr_nu M wx
          have hy := ofB_ok M
          generalize ofB M = y at *
          have HRAW := Lib.hid hraw
          have HLESS := Lib.hid hless
          have HOF := Lib.hid hof
          clear hraw hless hof
          go_enter Tryd.func43, Tryd.ntmps43
          go_wp2_with (first
            | (refine wpList_load_row rfl 22 (.tmp 1) rfl (w.heap.size) rfl 22 _ (0, 0) _ hb0 Tryd.underlying22 rfl (by_info _) ?_))
          refine (HRAW.out _).mono ?_
          rintro e Wyok1 ⟨rfl, hb⟩
          replace hb0 := hb0.belowAll hb
          replace hz := hz.belowAll hb
          replace hw := hw.trans (hb.mono hw.size)
          clear hb
          go_wp2_with fail
          refine (P_any _).mono ?_
          rintro e Wyok2 ⟨rfl, hb⟩
          replace hb0 := hb0.belowAll hb
          replace hz := hz.belowAll hb
          replace hw := hw.trans (hb.mono hw.size)
          clear hb
          go_wp2_with fail
          refine (HLESS.out _).mono ?_
          rintro e Wyok3 ⟨rfl, hb⟩
          replace hb0 := hb0.belowAll hb
          replace hz := hz.belowAll hb
          replace hw := hw.trans (hb.mono hw.size)
          clear hb
          have hr0 := fun wx => rootr_nu (frU_ok hy) (frV_ok hy) wx
          rw [hok] at hr0
          have HRT := Lib.hid hr0
          clear hr0 hok
          go_wp2_with (first
            | (refine wpList_load_row rfl 22 (.tmp 1) rfl (w.heap.size) rfl 22 _ (0, 0) _ hb0 Tryd.underlying22 rfl (by_info _) ?_))
          refine (HOF.out _).mono ?_
          rintro e Wyok4 ⟨rfl, hb⟩
          replace hb0 := hb0.belowAll hb
          replace hz := hz.belowAll hb
          replace hw := hw.trans (hb.mono hw.size)
          clear hb
          have lt_hb0 := hb0.lt
          have lt_hz := hz.lt
          have ne_hb0_yok4 : w.heap.size ≠ Wyok4.heap.size := by omega
          have ne_hz_yok4 : w.heap.size + 1 ≠ Wyok4.heap.size := by omega
          have new_yok4 := Row.new Wyok4 (Nw 0) 30
          replace hb0 := (hb0.alloc (.cells (Nw 0).toArray 30)).setRowOther (k := Wyok4.heap.size) ne_hb0_yok4 (Nw (nu y)).toArray
          replace hz := (hz.alloc (.cells (Nw 0).toArray 30)).setRowOther (k := Wyok4.heap.size) ne_hz_yok4 (Nw (nu y)).toArray
          have h5 := new_yok4.setRow (Nw (nu y))
          have ge_yok4 := hw.size
          replace hw := below_setRow (g := Wyok4.heap.size) (hw.alloc hw.size (.cells (Nw 0).toArray 30)) hw.size (Nw (nu y)).toArray
          have NEW := Lib.hid new_yok4
          clear new_yok4 lt_hb0 lt_hz
          go_wp2_with (first
            | (refine wpList_store_row rfl 30 (.tmp 5) (.tmp 24) rfl Wyok4.heap.size _ rfl rfl 30 _ NEW.out (nw_info _) (Nw_sz _ _) (Nw_one _) ?_))
          clear NEW
          rw [zero8]
          generalize (Wyok4.alloc (.cells (Nw 0).toArray 30)).setRow Wyok4.heap.size (Nw (nu y)).toArray = Vyok4 at *
          generalize Wyok4.heap.size = g5 at *
          refine (smallr_nu 1 (by decide) _).mono ?_
          rintro e Wyok5 ⟨rfl, hb⟩
          replace hb0 := hb0.belowAll hb
          replace hz := hz.belowAll hb
          replace h5 := h5.belowAll hb
          replace hw := hw.trans (hb.mono hw.size)
          clear hb
          have lt_hb0 := hb0.lt
          have lt_hz := hz.lt
          have lt_h5 := h5.lt
          have ne_hb0_yok5 : w.heap.size ≠ Wyok5.heap.size := by omega
          have ne_hz_yok5 : w.heap.size + 1 ≠ Wyok5.heap.size := by omega
          have ne_h5_yok5 : g5 ≠ Wyok5.heap.size := by omega
          have new_yok5 := Row.new Wyok5 (Nw 0) 30
          replace hb0 := (hb0.alloc (.cells (Nw 0).toArray 30)).setRowOther (k := Wyok5.heap.size) ne_hb0_yok5 (Nw (nu (smL 1))).toArray
          replace hz := (hz.alloc (.cells (Nw 0).toArray 30)).setRowOther (k := Wyok5.heap.size) ne_hz_yok5 (Nw (nu (smL 1))).toArray
          replace h5 := (h5.alloc (.cells (Nw 0).toArray 30)).setRowOther (k := Wyok5.heap.size) ne_h5_yok5 (Nw (nu (smL 1))).toArray
          have h6 := new_yok5.setRow (Nw (nu (smL 1)))
          have ge_yok5 := hw.size
          replace hw := below_setRow (g := Wyok5.heap.size) (hw.alloc hw.size (.cells (Nw 0).toArray 30)) hw.size (Nw (nu (smL 1))).toArray
          have NEW := Lib.hid new_yok5
          clear new_yok5 lt_hb0 lt_hz lt_h5
          go_wp2_with (first
            | (refine wpList_store_row rfl 30 (.tmp 6) (.tmp 25) rfl Wyok5.heap.size _ rfl rfl 30 _ NEW.out (nw_info _) (Nw_sz _ _) (Nw_one _) ?_)
            | (refine wpList_load_row rfl 30 (.tmp 5) rfl (g5) rfl 30 _ (0, 0) _ h5 Tryd.underlying30 rfl (nw_info _) ?_))
          clear NEW
          rw [zero8]
          generalize (Wyok5.alloc (.cells (Nw 0).toArray 30)).setRow Wyok5.heap.size (Nw (nu (smL 1))).toArray = Vyok5 at *
          generalize Wyok5.heap.size = g6 at *
          refine (mulr_nu y y _).mono ?_
          rintro e Wyok6 ⟨rfl, hb⟩
          replace hb0 := hb0.belowAll hb
          replace hz := hz.belowAll hb
          replace h5 := h5.belowAll hb
          replace h6 := h6.belowAll hb
          replace hw := hw.trans (hb.mono hw.size)
          clear hb
          have lt_hb0 := hb0.lt
          have lt_hz := hz.lt
          have lt_h5 := h5.lt
          have lt_h6 := h6.lt
          have ne_hb0_yok6 : w.heap.size ≠ Wyok6.heap.size := by omega
          have ne_hz_yok6 : w.heap.size + 1 ≠ Wyok6.heap.size := by omega
          have ne_h5_yok6 : g5 ≠ Wyok6.heap.size := by omega
          have ne_h6_yok6 : g6 ≠ Wyok6.heap.size := by omega
          have new_yok6 := Row.new Wyok6 (Nw 0) 30
          replace hb0 := (hb0.alloc (.cells (Nw 0).toArray 30)).setRowOther (k := Wyok6.heap.size) ne_hb0_yok6 (Nw (nu (mulL y y))).toArray
          replace hz := (hz.alloc (.cells (Nw 0).toArray 30)).setRowOther (k := Wyok6.heap.size) ne_hz_yok6 (Nw (nu (mulL y y))).toArray
          replace h5 := (h5.alloc (.cells (Nw 0).toArray 30)).setRowOther (k := Wyok6.heap.size) ne_h5_yok6 (Nw (nu (mulL y y))).toArray
          replace h6 := (h6.alloc (.cells (Nw 0).toArray 30)).setRowOther (k := Wyok6.heap.size) ne_h6_yok6 (Nw (nu (mulL y y))).toArray
          have h7 := new_yok6.setRow (Nw (nu (mulL y y)))
          have ge_yok6 := hw.size
          replace hw := below_setRow (g := Wyok6.heap.size) (hw.alloc hw.size (.cells (Nw 0).toArray 30)) hw.size (Nw (nu (mulL y y))).toArray
          have NEW := Lib.hid new_yok6
          clear new_yok6 lt_hb0 lt_hz lt_h5 lt_h6
          go_wp2_with (first
            | (refine wpList_store_row rfl 30 (.tmp 7) (.tmp 28) rfl Wyok6.heap.size _ rfl rfl 30 _ NEW.out (nw_info _) (Nw_sz _ _) (Nw_one _) ?_))
          clear NEW
          rw [zero8]
          generalize (Wyok6.alloc (.cells (Nw 0).toArray 30)).setRow Wyok6.heap.size (Nw (nu (mulL y y))).toArray = Vyok6 at *
          generalize Wyok6.heap.size = g7 at *
          have lt_hb0 := hb0.lt
          have lt_hz := hz.lt
          have lt_h5 := h5.lt
          have lt_h6 := h6.lt
          have lt_h7 := h7.lt
          refine wp_vars_one (aD := ?aDyok7) (B := Vyok6.heap.size) (S := fun w' => Below Vyok6.heap.size Vyok6 w') (k1 := 12) (s1 := 13) (T1 := 30) (L1 := 30) (z1 := Nw 0) (c1 := Nw (nu (rootL (frU y) (frV y)))) (x1 := .tmp 8) (y1 := .tmp 39)
            (vs := [(0, .agg (Nw (nu (mulL y y))).toArray), (1, .agg (Nw (nu (smL 1))).toArray), (2, .agg (Nw (nu (subL (mulL y y) (smL 1)))).toArray), (3, .agg (Nw (nu dL)).toArray), (4, .agg (Nw (nu (mulL y y))).toArray), (5, .agg (Nw (nu (mulL dL (mulL y y)))).toArray), (6, .agg (Nw (nu (smL 1))).toArray), (7, .agg (Nw (nu (addL (mulL dL (mulL y y)) (smL 1)))).toArray), (8, .tuple #[.agg (Nw (nu (rootL (frU y) (frV y)))).toArray, .bool true]), (9, .tuple #[.agg (Nw (nu (rootL (frU y) (frV y)))).toArray, .bool true]), (10, .agg (Nw (nu (rootL (frU y) (frV y)))).toArray), (11, .bool true), (14, .bool true)]) (by kernel_rfl) ((Below.refl _ _).drew) (fun _ _ h k => S_trans h k) (fun _ _ cs h hg => S_row h hg cs) (fun _ h => h.size) ?hDyok7 (.of rfl rfl rfl (fun w' => nw_alloc w')) ?hkyok7 rfl rfl (some 8) rfl rfl rfl ?eyok71 ?fyok71 (nw_info _) (Nw_sz _ _) (Nw_one _) ?hyok7
          case hDyok7 =>
            refine .step (some 30) rfl rfl (by kernel_rfl) (Gives.load_row 30 (.tmp 7) rfl (g7) rfl 30 _ (fun w' h => h7.belowAll h) Tryd.underlying30 rfl (nw_info _)) ?_
            simp only [Act.put, List.setIfInBounds_toArray, List.set_cons_zero, List.set_cons_succ]
            refine .step (some 31) rfl rfl (by kernel_rfl) (Gives.load_row 30 (.tmp 6) rfl (g6) rfl 30 _ (fun w' h => h6.belowAll h) Tryd.underlying30 rfl (nw_info _)) ?_
            simp only [Act.put, List.setIfInBounds_toArray, List.set_cons_zero, List.set_cons_succ]
            refine .step (some 32) rfl rfl (by kernel_rfl) (Gives.call (args := [.agg (Nw (nu (mulL y y))).toArray, .agg (Nw (nu (smL 1))).toArray]) rfl Tryd.func30 (by kernel_rfl) (by kernel_rfl) rfl (fun w' h => subr_nu (mulL y y) sm_ok1 w')) ?_
            simp only [Act.put, List.setIfInBounds_toArray, List.set_cons_zero, List.set_cons_succ]
            refine .step (some 33) rfl rfl (by kernel_rfl) (Gives.call (args := []) rfl Tryd.func52 (by kernel_rfl) (by kernel_rfl) rfl (fun w' h => d_ref w')) ?_
            simp only [Act.put, List.setIfInBounds_toArray, List.set_cons_zero, List.set_cons_succ]
            refine .step (some 34) rfl rfl (by kernel_rfl) (Gives.load_row 30 (.tmp 7) rfl (g7) rfl 30 _ (fun w' h => h7.belowAll h) Tryd.underlying30 rfl (nw_info _)) ?_
            simp only [Act.put, List.setIfInBounds_toArray, List.set_cons_zero, List.set_cons_succ]
            refine .step (some 35) rfl rfl (by kernel_rfl) (Gives.call (args := [.agg (Nw (nu dL)).toArray, .agg (Nw (nu (mulL y y))).toArray]) rfl Tryd.func32 (by kernel_rfl) (by kernel_rfl) rfl (fun w' h => mulr_nu dL (mulL y y) w')) ?_
            simp only [Act.put, List.setIfInBounds_toArray, List.set_cons_zero, List.set_cons_succ]
            refine .step (some 36) rfl rfl (by kernel_rfl) (Gives.load_row 30 (.tmp 6) rfl (g6) rfl 30 _ (fun w' h => h6.belowAll h) Tryd.underlying30 rfl (nw_info _)) ?_
            simp only [Act.put, List.setIfInBounds_toArray, List.set_cons_zero, List.set_cons_succ]
            refine .step (some 37) rfl rfl (by kernel_rfl) (Gives.call (args := [.agg (Nw (nu (mulL dL (mulL y y)))).toArray, .agg (Nw (nu (smL 1))).toArray]) rfl Tryd.func28 (by kernel_rfl) (by kernel_rfl) rfl (fun w' h => addr_nu (mulL dL (mulL y y)) (smL 1) w')) ?_
            simp only [Act.put, List.setIfInBounds_toArray, List.set_cons_zero, List.set_cons_succ]
            refine .step (some 38) rfl rfl (by kernel_rfl) (Gives.call (args := [.agg (Nw (nu (subL (mulL y y) (smL 1)))).toArray, .agg (Nw (nu (addL (mulL dL (mulL y y)) (smL 1)))).toArray]) rfl Tryd.func41 (by kernel_rfl) (by kernel_rfl) rfl (fun w' h => HRT.out w')) ?_
            simp only [Act.put, List.setIfInBounds_toArray, List.set_cons_zero, List.set_cons_succ]
            refine .step (some 29) rfl rfl (by kernel_rfl) (Gives.move (x := (.tmp 38)) rfl rfl) ?_
            simp only [Act.put, List.setIfInBounds_toArray, List.set_cons_zero, List.set_cons_succ]
            refine .step (some 39) rfl rfl (by kernel_rfl) (Gives.extract (.tmp 29) 0 rfl _ _ rfl (fun w' => tu_ext0 _ _ w')) ?_
            simp only [Act.put, List.setIfInBounds_toArray, List.set_cons_zero, List.set_cons_succ]
            refine .step (some 40) rfl rfl (by kernel_rfl) (Gives.extract (.tmp 29) 1 rfl _ _ rfl (fun w' => tu_ext1 _ _ w')) ?_
            simp only [Act.put, List.setIfInBounds_toArray, List.set_cons_zero, List.set_cons_succ]
            refine .step (some 9) rfl rfl (by kernel_rfl) (Gives.assign (x := (.tmp 40)) rfl rfl) ?_
            simp only [Act.put, List.setIfInBounds_toArray, List.set_cons_zero, List.set_cons_succ]
            exact .nil
          case hkyok7 => kernel_rfl
          case eyok71 => intro i1; rfl
          case fyok71 => intro i1; rfl
          case hyok7 =>
          intro g8 Wyok7 hb hgyok7 h8
  
          have ge_g8 := Nat.le_trans hw.size hgyok7
          have ne_hb0_g8 : w.heap.size ≠ g8 := by omega
          have ne_hz_g8 : w.heap.size + 1 ≠ g8 := by omega
          have ne_h5_g8 : g5 ≠ g8 := by omega
          have ne_h6_g8 : g6 ≠ g8 := by omega
          have ne_h7_g8 : g7 ≠ g8 := by omega
          clear lt_hb0 lt_hz lt_h5 lt_h6 lt_h7
          replace hb0 := hb0.belowAll hb
          replace hz := hz.belowAll hb
          replace h5 := h5.belowAll hb
          replace h6 := h6.belowAll hb
          replace h7 := h7.belowAll hb
          replace hw := hw.trans (hb.mono hw.size)
          clear hb
          have hx0c := fun wx => neq_zero (rootL (frU y) (frV y)) wx
          rw [hx0] at hx0c
          have HX0 := Lib.hid hx0c
          clear hx0c hx0
          go_wp2_with (first
            | (refine wpList_load_guarded (by rfl) 30 (.tmp 8) rfl (g8) rfl 30 _ h8 Tryd.underlying30 rfl (nw_info _) ?_)
            | (refine wpList_build0_guarded (by rfl) 30 rfl _ (nw_build _) ?_)
            | (refine wpList_binop _ .eql 30 30 (.tmp 46) (.tmp 47) rfl (by rfl) (.agg (Nw (nu (rootL (frU y) (frV y)))).toArray) (.agg (Nw 0).toArray) (.bool true) rfl rfl (ngrd _ _ _ _ _ _) (HX0.out _) ?_))
          refine (zr_ref _).mono ?_
          rintro e Wyok8 ⟨rfl, hb⟩
          replace hb0 := hb0.belowAll hb
          replace hz := hz.belowAll hb
          replace h5 := h5.belowAll hb
          replace h6 := h6.belowAll hb
          replace h7 := h7.belowAll hb
          replace h8 := h8.belowAll hb
          replace hw := hw.trans (hb.mono hw.size)
          clear hb
          have hgot := setRow_heap _ (w.heap.size + 1) _ (RL ⟨zeL, smL 1, smL 1⟩).toArray _ _ hz
          have HGOT := Lib.hid hgot
          have HW := Lib.hid hw
          clear hgot hw
          go_wp2_with (first
            | (refine wpList_store_row rfl 62 (.tmp 2) (.tmp 51) rfl (w.heap.size + 1) _ rfl rfl 62 _ hz (rl_info _) (RL_sz _ _) (RL_one _) ?_))
          refine bodyPost_ret (results_row_slot (by rfl) _ _ (w.heap.size + 1) _ _ _ _ (.bool false) (by rfl) HGOT.out Tryd.underlying62 rfl (rl_info _) (by rfl)) rfl ?_
          exact ⟨⟨_, by rw [HDEC.out], fun h => absurd (HDEC.out.symm.trans h) (by decide)⟩, below_setRow HW.out (by omega) _⟩
        · replace hx0 := (Bool.not_eq_true _).mp hx0
          have HDEC := Lib.hid (show decOk N = true by unfold decOk; rw [hok, hcan, hx0, decide_eq_true hoth]; rfl)
          have hc := byt_lt N 31
          have hset := By_set31 N
          have hcell := ((Row.new w (By N 32) 22).alloc (.cells #[.int .u32 0, .int .u32 0, .int .u32 0, .int .u32 0, .int .u32 0, .int .u32 0, .int .u32 0, .int .u32 0, .int .u32 0, .int .u32 0, .int .u32 0, .int .u32 0, .int .u32 0, .int .u32 0, .int .u32 0, .int .u32 0, .int .u32 0, .int .u32 0, .int .u32 0, .int .u32 0, .int .u32 0, .int .u32 0, .int .u32 0, .int .u32 0] 62)).cell (By_get N 32 (k := 31) (by decide))
          have hfree := ((Row.new w (By N 32) 22).alloc (.cells #[.int .u32 0, .int .u32 0, .int .u32 0, .int .u32 0, .int .u32 0, .int .u32 0, .int .u32 0, .int .u32 0, .int .u32 0, .int .u32 0, .int .u32 0, .int .u32 0, .int .u32 0, .int .u32 0, .int .u32 0, .int .u32 0, .int .u32 0, .int .u32 0, .int .u32 0, .int .u32 0, .int .u32 0, .int .u32 0, .int .u32 0, .int .u32 0] 62)).free 31
          have hge := ge_hi_true hoth
          have e31 : (((byt N 31 : Nat) : Int) % 128) = ((byt N 31 % 128 : Nat) : Int) := by omega
          have hb0 : Row ((w.alloc (.cells ((By N 32).set 31 (.int .u8 (((byt N 31 : Nat) : Int) % 128))).toArray 22)).alloc (.cells #[.int .u32 0, .int .u32 0, .int .u32 0, .int .u32 0, .int .u32 0, .int .u32 0, .int .u32 0, .int .u32 0, .int .u32 0, .int .u32 0, .int .u32 0, .int .u32 0, .int .u32 0, .int .u32 0, .int .u32 0, .int .u32 0, .int .u32 0, .int .u32 0, .int .u32 0, .int .u32 0, .int .u32 0, .int .u32 0, .int .u32 0, .int .u32 0] 62)) w.heap.size 22 (By (N % 57896044618658097711785492504343953926634992332820282019728792003956564819968) 32) := by
            rw [e31, hset]
            exact (Row.new w _ 22).alloc _
          have hz : Row ((w.alloc (.cells ((By N 32).set 31 (.int .u8 (((byt N 31 : Nat) : Int) % 128))).toArray 22)).alloc (.cells #[.int .u32 0, .int .u32 0, .int .u32 0, .int .u32 0, .int .u32 0, .int .u32 0, .int .u32 0, .int .u32 0, .int .u32 0, .int .u32 0, .int .u32 0, .int .u32 0, .int .u32 0, .int .u32 0, .int .u32 0, .int .u32 0, .int .u32 0, .int .u32 0, .int .u32 0, .int .u32 0, .int .u32 0, .int .u32 0, .int .u32 0, .int .u32 0] 62)) (w.heap.size + 1) 62 (RL zeR) := by
            rw [RL_zero]
            exact Row.new1 w _ _ _
          have hw := Below.alloc2 w (.cells ((By N 32).set 31 (.int .u8 (((byt N 31 : Nat) : Int) % 128))).toArray 22) (.cells #[.int .u32 0, .int .u32 0, .int .u32 0, .int .u32 0, .int .u32 0, .int .u32 0, .int .u32 0, .int .u32 0, .int .u32 0, .int .u32 0, .int .u32 0, .int .u32 0, .int .u32 0, .int .u32 0, .int .u32 0, .int .u32 0, .int .u32 0, .int .u32 0, .int .u32 0, .int .u32 0, .int .u32 0, .int .u32 0, .int .u32 0, .int .u32 0] 62)
          clear hset e31
          generalize N % 57896044618658097711785492504343953926634992332820282019728792003956564819968 = M at *
          generalize byt N 31 = c at *
          have hraw := fun wx => raw_ref M HMM.out wx
          have hless := fun wx => less_is (show M < W8 from HMM.out) pp_W8 hcan wx
          have hof := fun wx => ofr_nu M wx
          have hy := ofB_ok M
          generalize ofB M = y at *
          have HRAW := Lib.hid hraw
          have HLESS := Lib.hid hless
          have HOF := Lib.hid hof
          clear hraw hless hof
          go_enter Tryd.func43, Tryd.ntmps43
          go_wp2_with (first
            | (refine wpList_load_row rfl 22 (.tmp 1) rfl (w.heap.size) rfl 22 _ (0, 0) _ hb0 Tryd.underlying22 rfl (by_info _) ?_))
          refine (HRAW.out _).mono ?_
          rintro e Wzok1 ⟨rfl, hb⟩
          replace hb0 := hb0.belowAll hb
          replace hz := hz.belowAll hb
          replace hw := hw.trans (hb.mono hw.size)
          clear hb
          go_wp2_with fail
          refine (P_any _).mono ?_
          rintro e Wzok2 ⟨rfl, hb⟩
          replace hb0 := hb0.belowAll hb
          replace hz := hz.belowAll hb
          replace hw := hw.trans (hb.mono hw.size)
          clear hb
          go_wp2_with fail
          refine (HLESS.out _).mono ?_
          rintro e Wzok3 ⟨rfl, hb⟩
          replace hb0 := hb0.belowAll hb
          replace hz := hz.belowAll hb
          replace hw := hw.trans (hb.mono hw.size)
          clear hb
          have hr0 := fun wx => rootr_nu (frU_ok hy) (frV_ok hy) wx
          rw [hok] at hr0
          have HRT := Lib.hid hr0
          clear hr0 hok
          go_wp2_with (first
            | (refine wpList_load_row rfl 22 (.tmp 1) rfl (w.heap.size) rfl 22 _ (0, 0) _ hb0 Tryd.underlying22 rfl (by_info _) ?_))
          refine (HOF.out _).mono ?_
          rintro e Wzok4 ⟨rfl, hb⟩
          replace hb0 := hb0.belowAll hb
          replace hz := hz.belowAll hb
          replace hw := hw.trans (hb.mono hw.size)
          clear hb
          have lt_hb0 := hb0.lt
          have lt_hz := hz.lt
          have ne_hb0_zok4 : w.heap.size ≠ Wzok4.heap.size := by omega
          have ne_hz_zok4 : w.heap.size + 1 ≠ Wzok4.heap.size := by omega
          have new_zok4 := Row.new Wzok4 (Nw 0) 30
          replace hb0 := (hb0.alloc (.cells (Nw 0).toArray 30)).setRowOther (k := Wzok4.heap.size) ne_hb0_zok4 (Nw (nu y)).toArray
          replace hz := (hz.alloc (.cells (Nw 0).toArray 30)).setRowOther (k := Wzok4.heap.size) ne_hz_zok4 (Nw (nu y)).toArray
          have h5 := new_zok4.setRow (Nw (nu y))
          have ge_zok4 := hw.size
          replace hw := below_setRow (g := Wzok4.heap.size) (hw.alloc hw.size (.cells (Nw 0).toArray 30)) hw.size (Nw (nu y)).toArray
          have NEW := Lib.hid new_zok4
          clear new_zok4 lt_hb0 lt_hz
          go_wp2_with (first
            | (refine wpList_store_row rfl 30 (.tmp 5) (.tmp 24) rfl Wzok4.heap.size _ rfl rfl 30 _ NEW.out (nw_info _) (Nw_sz _ _) (Nw_one _) ?_))
          clear NEW
          rw [zero8]
          generalize (Wzok4.alloc (.cells (Nw 0).toArray 30)).setRow Wzok4.heap.size (Nw (nu y)).toArray = Vzok4 at *
          generalize Wzok4.heap.size = g5 at *
          refine (smallr_nu 1 (by decide) _).mono ?_
          rintro e Wzok5 ⟨rfl, hb⟩
          replace hb0 := hb0.belowAll hb
          replace hz := hz.belowAll hb
          replace h5 := h5.belowAll hb
          replace hw := hw.trans (hb.mono hw.size)
          clear hb
          have lt_hb0 := hb0.lt
          have lt_hz := hz.lt
          have lt_h5 := h5.lt
          have ne_hb0_zok5 : w.heap.size ≠ Wzok5.heap.size := by omega
          have ne_hz_zok5 : w.heap.size + 1 ≠ Wzok5.heap.size := by omega
          have ne_h5_zok5 : g5 ≠ Wzok5.heap.size := by omega
          have new_zok5 := Row.new Wzok5 (Nw 0) 30
          replace hb0 := (hb0.alloc (.cells (Nw 0).toArray 30)).setRowOther (k := Wzok5.heap.size) ne_hb0_zok5 (Nw (nu (smL 1))).toArray
          replace hz := (hz.alloc (.cells (Nw 0).toArray 30)).setRowOther (k := Wzok5.heap.size) ne_hz_zok5 (Nw (nu (smL 1))).toArray
          replace h5 := (h5.alloc (.cells (Nw 0).toArray 30)).setRowOther (k := Wzok5.heap.size) ne_h5_zok5 (Nw (nu (smL 1))).toArray
          have h6 := new_zok5.setRow (Nw (nu (smL 1)))
          have ge_zok5 := hw.size
          replace hw := below_setRow (g := Wzok5.heap.size) (hw.alloc hw.size (.cells (Nw 0).toArray 30)) hw.size (Nw (nu (smL 1))).toArray
          have NEW := Lib.hid new_zok5
          clear new_zok5 lt_hb0 lt_hz lt_h5
          go_wp2_with (first
            | (refine wpList_store_row rfl 30 (.tmp 6) (.tmp 25) rfl Wzok5.heap.size _ rfl rfl 30 _ NEW.out (nw_info _) (Nw_sz _ _) (Nw_one _) ?_)
            | (refine wpList_load_row rfl 30 (.tmp 5) rfl (g5) rfl 30 _ (0, 0) _ h5 Tryd.underlying30 rfl (nw_info _) ?_))
          clear NEW
          rw [zero8]
          generalize (Wzok5.alloc (.cells (Nw 0).toArray 30)).setRow Wzok5.heap.size (Nw (nu (smL 1))).toArray = Vzok5 at *
          generalize Wzok5.heap.size = g6 at *
          refine (mulr_nu y y _).mono ?_
          rintro e Wzok6 ⟨rfl, hb⟩
          replace hb0 := hb0.belowAll hb
          replace hz := hz.belowAll hb
          replace h5 := h5.belowAll hb
          replace h6 := h6.belowAll hb
          replace hw := hw.trans (hb.mono hw.size)
          clear hb
          have lt_hb0 := hb0.lt
          have lt_hz := hz.lt
          have lt_h5 := h5.lt
          have lt_h6 := h6.lt
          have ne_hb0_zok6 : w.heap.size ≠ Wzok6.heap.size := by omega
          have ne_hz_zok6 : w.heap.size + 1 ≠ Wzok6.heap.size := by omega
          have ne_h5_zok6 : g5 ≠ Wzok6.heap.size := by omega
          have ne_h6_zok6 : g6 ≠ Wzok6.heap.size := by omega
          have new_zok6 := Row.new Wzok6 (Nw 0) 30
          replace hb0 := (hb0.alloc (.cells (Nw 0).toArray 30)).setRowOther (k := Wzok6.heap.size) ne_hb0_zok6 (Nw (nu (mulL y y))).toArray
          replace hz := (hz.alloc (.cells (Nw 0).toArray 30)).setRowOther (k := Wzok6.heap.size) ne_hz_zok6 (Nw (nu (mulL y y))).toArray
          replace h5 := (h5.alloc (.cells (Nw 0).toArray 30)).setRowOther (k := Wzok6.heap.size) ne_h5_zok6 (Nw (nu (mulL y y))).toArray
          replace h6 := (h6.alloc (.cells (Nw 0).toArray 30)).setRowOther (k := Wzok6.heap.size) ne_h6_zok6 (Nw (nu (mulL y y))).toArray
          have h7 := new_zok6.setRow (Nw (nu (mulL y y)))
          have ge_zok6 := hw.size
          replace hw := below_setRow (g := Wzok6.heap.size) (hw.alloc hw.size (.cells (Nw 0).toArray 30)) hw.size (Nw (nu (mulL y y))).toArray
          have NEW := Lib.hid new_zok6
          clear new_zok6 lt_hb0 lt_hz lt_h5 lt_h6
          go_wp2_with (first
            | (refine wpList_store_row rfl 30 (.tmp 7) (.tmp 28) rfl Wzok6.heap.size _ rfl rfl 30 _ NEW.out (nw_info _) (Nw_sz _ _) (Nw_one _) ?_))
          clear NEW
          rw [zero8]
          generalize (Wzok6.alloc (.cells (Nw 0).toArray 30)).setRow Wzok6.heap.size (Nw (nu (mulL y y))).toArray = Vzok6 at *
          generalize Wzok6.heap.size = g7 at *
          have lt_hb0 := hb0.lt
          have lt_hz := hz.lt
          have lt_h5 := h5.lt
          have lt_h6 := h6.lt
          have lt_h7 := h7.lt
          refine wp_vars_one (aD := ?aDzok7) (B := Vzok6.heap.size) (S := fun w' => Below Vzok6.heap.size Vzok6 w') (k1 := 12) (s1 := 13) (T1 := 30) (L1 := 30) (z1 := Nw 0) (c1 := Nw (nu (rootL (frU y) (frV y)))) (x1 := .tmp 8) (y1 := .tmp 39)
            (vs := [(0, .agg (Nw (nu (mulL y y))).toArray), (1, .agg (Nw (nu (smL 1))).toArray), (2, .agg (Nw (nu (subL (mulL y y) (smL 1)))).toArray), (3, .agg (Nw (nu dL)).toArray), (4, .agg (Nw (nu (mulL y y))).toArray), (5, .agg (Nw (nu (mulL dL (mulL y y)))).toArray), (6, .agg (Nw (nu (smL 1))).toArray), (7, .agg (Nw (nu (addL (mulL dL (mulL y y)) (smL 1)))).toArray), (8, .tuple #[.agg (Nw (nu (rootL (frU y) (frV y)))).toArray, .bool true]), (9, .tuple #[.agg (Nw (nu (rootL (frU y) (frV y)))).toArray, .bool true]), (10, .agg (Nw (nu (rootL (frU y) (frV y)))).toArray), (11, .bool true), (14, .bool true)]) (by kernel_rfl) ((Below.refl _ _).drew) (fun _ _ h k => S_trans h k) (fun _ _ cs h hg => S_row h hg cs) (fun _ h => h.size) ?hDzok7 (.of rfl rfl rfl (fun w' => nw_alloc w')) ?hkzok7 rfl rfl (some 8) rfl rfl rfl ?ezok71 ?fzok71 (nw_info _) (Nw_sz _ _) (Nw_one _) ?hzok7
          case hDzok7 =>
            refine .step (some 30) rfl rfl (by kernel_rfl) (Gives.load_row 30 (.tmp 7) rfl (g7) rfl 30 _ (fun w' h => h7.belowAll h) Tryd.underlying30 rfl (nw_info _)) ?_
            simp only [Act.put, List.setIfInBounds_toArray, List.set_cons_zero, List.set_cons_succ]
            refine .step (some 31) rfl rfl (by kernel_rfl) (Gives.load_row 30 (.tmp 6) rfl (g6) rfl 30 _ (fun w' h => h6.belowAll h) Tryd.underlying30 rfl (nw_info _)) ?_
            simp only [Act.put, List.setIfInBounds_toArray, List.set_cons_zero, List.set_cons_succ]
            refine .step (some 32) rfl rfl (by kernel_rfl) (Gives.call (args := [.agg (Nw (nu (mulL y y))).toArray, .agg (Nw (nu (smL 1))).toArray]) rfl Tryd.func30 (by kernel_rfl) (by kernel_rfl) rfl (fun w' h => subr_nu (mulL y y) sm_ok1 w')) ?_
            simp only [Act.put, List.setIfInBounds_toArray, List.set_cons_zero, List.set_cons_succ]
            refine .step (some 33) rfl rfl (by kernel_rfl) (Gives.call (args := []) rfl Tryd.func52 (by kernel_rfl) (by kernel_rfl) rfl (fun w' h => d_ref w')) ?_
            simp only [Act.put, List.setIfInBounds_toArray, List.set_cons_zero, List.set_cons_succ]
            refine .step (some 34) rfl rfl (by kernel_rfl) (Gives.load_row 30 (.tmp 7) rfl (g7) rfl 30 _ (fun w' h => h7.belowAll h) Tryd.underlying30 rfl (nw_info _)) ?_
            simp only [Act.put, List.setIfInBounds_toArray, List.set_cons_zero, List.set_cons_succ]
            refine .step (some 35) rfl rfl (by kernel_rfl) (Gives.call (args := [.agg (Nw (nu dL)).toArray, .agg (Nw (nu (mulL y y))).toArray]) rfl Tryd.func32 (by kernel_rfl) (by kernel_rfl) rfl (fun w' h => mulr_nu dL (mulL y y) w')) ?_
            simp only [Act.put, List.setIfInBounds_toArray, List.set_cons_zero, List.set_cons_succ]
            refine .step (some 36) rfl rfl (by kernel_rfl) (Gives.load_row 30 (.tmp 6) rfl (g6) rfl 30 _ (fun w' h => h6.belowAll h) Tryd.underlying30 rfl (nw_info _)) ?_
            simp only [Act.put, List.setIfInBounds_toArray, List.set_cons_zero, List.set_cons_succ]
            refine .step (some 37) rfl rfl (by kernel_rfl) (Gives.call (args := [.agg (Nw (nu (mulL dL (mulL y y)))).toArray, .agg (Nw (nu (smL 1))).toArray]) rfl Tryd.func28 (by kernel_rfl) (by kernel_rfl) rfl (fun w' h => addr_nu (mulL dL (mulL y y)) (smL 1) w')) ?_
            simp only [Act.put, List.setIfInBounds_toArray, List.set_cons_zero, List.set_cons_succ]
            refine .step (some 38) rfl rfl (by kernel_rfl) (Gives.call (args := [.agg (Nw (nu (subL (mulL y y) (smL 1)))).toArray, .agg (Nw (nu (addL (mulL dL (mulL y y)) (smL 1)))).toArray]) rfl Tryd.func41 (by kernel_rfl) (by kernel_rfl) rfl (fun w' h => HRT.out w')) ?_
            simp only [Act.put, List.setIfInBounds_toArray, List.set_cons_zero, List.set_cons_succ]
            refine .step (some 29) rfl rfl (by kernel_rfl) (Gives.move (x := (.tmp 38)) rfl rfl) ?_
            simp only [Act.put, List.setIfInBounds_toArray, List.set_cons_zero, List.set_cons_succ]
            refine .step (some 39) rfl rfl (by kernel_rfl) (Gives.extract (.tmp 29) 0 rfl _ _ rfl (fun w' => tu_ext0 _ _ w')) ?_
            simp only [Act.put, List.setIfInBounds_toArray, List.set_cons_zero, List.set_cons_succ]
            refine .step (some 40) rfl rfl (by kernel_rfl) (Gives.extract (.tmp 29) 1 rfl _ _ rfl (fun w' => tu_ext1 _ _ w')) ?_
            simp only [Act.put, List.setIfInBounds_toArray, List.set_cons_zero, List.set_cons_succ]
            refine .step (some 9) rfl rfl (by kernel_rfl) (Gives.assign (x := (.tmp 40)) rfl rfl) ?_
            simp only [Act.put, List.setIfInBounds_toArray, List.set_cons_zero, List.set_cons_succ]
            exact .nil
          case hkzok7 => kernel_rfl
          case ezok71 => intro i1; rfl
          case fzok71 => intro i1; rfl
          case hzok7 =>
          intro g8 Wzok7 hb hgzok7 h8
  
          have ge_g8 := Nat.le_trans hw.size hgzok7
          have ne_hb0_g8 : w.heap.size ≠ g8 := by omega
          have ne_hz_g8 : w.heap.size + 1 ≠ g8 := by omega
          have ne_h5_g8 : g5 ≠ g8 := by omega
          have ne_h6_g8 : g6 ≠ g8 := by omega
          have ne_h7_g8 : g7 ≠ g8 := by omega
          clear lt_hb0 lt_hz lt_h5 lt_h6 lt_h7
          replace hb0 := hb0.belowAll hb
          replace hz := hz.belowAll hb
          replace h5 := h5.belowAll hb
          replace h6 := h6.belowAll hb
          replace h7 := h7.belowAll hb
          replace hw := hw.trans (hb.mono hw.size)
          clear hb
          have hx0c := fun wx => neq_zero (rootL (frU y) (frV y)) wx
          rw [hx0] at hx0c
          have HX0 := Lib.hid hx0c
          clear hx0c hx0
          go_wp2_with (first
            | (refine wpList_load_guarded (by rfl) 30 (.tmp 8) rfl (g8) rfl 30 _ h8 Tryd.underlying30 rfl (nw_info _) ?_)
            | (refine wpList_load_row rfl 30 (.tmp 8) rfl (g8) rfl 30 _ (0, 0) _ h8 Tryd.underlying30 rfl (nw_info _) ?_)
            | (refine wpList_build0_guarded (by rfl) 30 rfl _ (nw_build _) ?_)
            | (refine wpList_binop _ .eql 30 30 (.tmp 46) (.tmp 47) rfl (by rfl) (.agg (Nw (nu (rootL (frU y) (frV y)))).toArray) (.agg (Nw 0).toArray) (.bool false) rfl rfl (ngrd _ _ _ _ _ _) (HX0.out _) ?_)
            | (refine wpList_build0 rfl 30 rfl _ (nw_build _) ?_))
          have hxk := rootL_ok (frU_ok hy) (frV_ok hy)
          refine (negr_nu hxk _).mono ?_
          rintro e Wzok8 ⟨rfl, hb⟩
          replace hb0 := hb0.belowAll hb
          replace hz := hz.belowAll hb
          replace h5 := h5.belowAll hb
          replace h6 := h6.belowAll hb
          replace h7 := h7.belowAll hb
          replace h8 := h8.belowAll hb
          replace hw := hw.trans (hb.mono hw.size)
          clear hb
          have SET := Lib.hid h8
          replace hb0 := hb0.setRowOther (k := g8) ne_hb0_g8 (Nw (nu (negL (rootL (frU y) (frV y))))).toArray
          replace hz := hz.setRowOther (k := g8) ne_hz_g8 (Nw (nu (negL (rootL (frU y) (frV y))))).toArray
          replace h5 := h5.setRowOther (k := g8) ne_h5_g8 (Nw (nu (negL (rootL (frU y) (frV y))))).toArray
          replace h6 := h6.setRowOther (k := g8) ne_h6_g8 (Nw (nu (negL (rootL (frU y) (frV y))))).toArray
          replace h7 := h7.setRowOther (k := g8) ne_h7_g8 (Nw (nu (negL (rootL (frU y) (frV y))))).toArray
          replace h8 := h8.setRow (Nw (nu (negL (rootL (frU y) (frV y)))))
          replace hw := below_setRow (g := g8) hw ge_g8 (Nw (nu (negL (rootL (frU y) (frV y))))).toArray
          have hgot := setRow_heap _ (w.heap.size + 1) _ (RL ⟨(negL (rootL (frU y) (frV y))), y, smL 1⟩).toArray _ _ hz
          have HGOT := Lib.hid hgot
          have HW := Lib.hid hw
          clear hgot hw
          go_wp2_with (first
            | (refine wpList_store_row rfl 30 (.tmp 8) (.tmp 55) rfl g8 _ rfl rfl 30 _ SET.out (nw_info _) (Nw_sz _ _) (Nw_one _) ?_)
            | (refine wpList_load_row rfl 30 (.tmp 8) rfl (g8) rfl 30 _ (0, 0) _ h8 Tryd.underlying30 rfl (nw_info _) ?_)
            | (refine wpList_load_row rfl 30 (.tmp 5) rfl (g5) rfl 30 _ (0, 0) _ h5 Tryd.underlying30 rfl (nw_info _) ?_)
            | (refine wpList_load_row rfl 30 (.tmp 6) rfl (g6) rfl 30 _ (0, 0) _ h6 Tryd.underlying30 rfl (nw_info _) ?_)
            | (refine wpList_build3 rfl 62 (.tmp 56) (.tmp 57) (.tmp 58) rfl (.agg (Nw (nu (negL (rootL (frU y) (frV y))))).toArray) (.agg (Nw (nu y)).toArray) (.agg (Nw (nu (smL 1))).toArray) (.agg (RL ⟨(negL (rootL (frU y) (frV y))), y, smL 1⟩).toArray) rfl rfl rfl (rl_mk (negL (rootL (frU y) (frV y))) y (smL 1) _) ?_)
            | (refine wpList_store_row rfl 62 (.tmp 2) (.tmp 59) rfl (w.heap.size + 1) _ rfl rfl 62 _ hz (rl_info _) (RL_sz _ _) (RL_one _) ?_))
          refine bodyPost_ret (results_row_slot (by rfl) _ _ (w.heap.size + 1) _ _ _ _ (.bool true) (by rfl) HGOT.out Tryd.underlying62 rfl (rl_info _) (by rfl)) rfl ?_
          exact ⟨⟨_, by rw [HDEC.out], fun _ => by first | rfl | rw [if_pos hoth] | rw [if_neg hoth]⟩, below_setRow HW.out (by omega) _⟩
      · replace hok := (Bool.not_eq_true _).mp hok
        have HDEC := Lib.hid (show decOk N = false by unfold decOk; rw [hok]; rfl)
        have hc := byt_lt N 31
        have hset := By_set31 N
        have hcell := ((Row.new w (By N 32) 22).alloc (.cells #[.int .u32 0, .int .u32 0, .int .u32 0, .int .u32 0, .int .u32 0, .int .u32 0, .int .u32 0, .int .u32 0, .int .u32 0, .int .u32 0, .int .u32 0, .int .u32 0, .int .u32 0, .int .u32 0, .int .u32 0, .int .u32 0, .int .u32 0, .int .u32 0, .int .u32 0, .int .u32 0, .int .u32 0, .int .u32 0, .int .u32 0, .int .u32 0] 62)).cell (By_get N 32 (k := 31) (by decide))
        have hfree := ((Row.new w (By N 32) 22).alloc (.cells #[.int .u32 0, .int .u32 0, .int .u32 0, .int .u32 0, .int .u32 0, .int .u32 0, .int .u32 0, .int .u32 0, .int .u32 0, .int .u32 0, .int .u32 0, .int .u32 0, .int .u32 0, .int .u32 0, .int .u32 0, .int .u32 0, .int .u32 0, .int .u32 0, .int .u32 0, .int .u32 0, .int .u32 0, .int .u32 0, .int .u32 0, .int .u32 0] 62)).free 31
        have hge := ge_hi_true hoth
        have e31 : (((byt N 31 : Nat) : Int) % 128) = ((byt N 31 % 128 : Nat) : Int) := by omega
        have hb0 : Row ((w.alloc (.cells ((By N 32).set 31 (.int .u8 (((byt N 31 : Nat) : Int) % 128))).toArray 22)).alloc (.cells #[.int .u32 0, .int .u32 0, .int .u32 0, .int .u32 0, .int .u32 0, .int .u32 0, .int .u32 0, .int .u32 0, .int .u32 0, .int .u32 0, .int .u32 0, .int .u32 0, .int .u32 0, .int .u32 0, .int .u32 0, .int .u32 0, .int .u32 0, .int .u32 0, .int .u32 0, .int .u32 0, .int .u32 0, .int .u32 0, .int .u32 0, .int .u32 0] 62)) w.heap.size 22 (By (N % 57896044618658097711785492504343953926634992332820282019728792003956564819968) 32) := by
          rw [e31, hset]
          exact (Row.new w _ 22).alloc _
        have hz : Row ((w.alloc (.cells ((By N 32).set 31 (.int .u8 (((byt N 31 : Nat) : Int) % 128))).toArray 22)).alloc (.cells #[.int .u32 0, .int .u32 0, .int .u32 0, .int .u32 0, .int .u32 0, .int .u32 0, .int .u32 0, .int .u32 0, .int .u32 0, .int .u32 0, .int .u32 0, .int .u32 0, .int .u32 0, .int .u32 0, .int .u32 0, .int .u32 0, .int .u32 0, .int .u32 0, .int .u32 0, .int .u32 0, .int .u32 0, .int .u32 0, .int .u32 0, .int .u32 0] 62)) (w.heap.size + 1) 62 (RL zeR) := by
          rw [RL_zero]
          exact Row.new1 w _ _ _
        have hw := Below.alloc2 w (.cells ((By N 32).set 31 (.int .u8 (((byt N 31 : Nat) : Int) % 128))).toArray 22) (.cells #[.int .u32 0, .int .u32 0, .int .u32 0, .int .u32 0, .int .u32 0, .int .u32 0, .int .u32 0, .int .u32 0, .int .u32 0, .int .u32 0, .int .u32 0, .int .u32 0, .int .u32 0, .int .u32 0, .int .u32 0, .int .u32 0, .int .u32 0, .int .u32 0, .int .u32 0, .int .u32 0, .int .u32 0, .int .u32 0, .int .u32 0, .int .u32 0] 62)
        clear hset e31
        generalize N % 57896044618658097711785492504343953926634992332820282019728792003956564819968 = M at *
        generalize byt N 31 = c at *
        have hraw := fun wx => raw_ref M HMM.out wx
        have hless := fun wx => less_is (show M < W8 from HMM.out) pp_W8 hcan wx
        have hof := fun wx => ofr_nu M wx
        have hy := ofB_ok M
        generalize ofB M = y at *
        have HRAW := Lib.hid hraw
        have HLESS := Lib.hid hless
        have HOF := Lib.hid hof
        clear hraw hless hof
        go_enter Tryd.func43, Tryd.ntmps43
        go_wp2_with (first
          | (refine wpList_load_row rfl 22 (.tmp 1) rfl (w.heap.size) rfl 22 _ (0, 0) _ hb0 Tryd.underlying22 rfl (by_info _) ?_))
        refine (HRAW.out _).mono ?_
        rintro e Wbok1 ⟨rfl, hb⟩
        replace hb0 := hb0.belowAll hb
        replace hz := hz.belowAll hb
        replace hw := hw.trans (hb.mono hw.size)
        clear hb
        go_wp2_with fail
        refine (P_any _).mono ?_
        rintro e Wbok2 ⟨rfl, hb⟩
        replace hb0 := hb0.belowAll hb
        replace hz := hz.belowAll hb
        replace hw := hw.trans (hb.mono hw.size)
        clear hb
        go_wp2_with fail
        refine (HLESS.out _).mono ?_
        rintro e Wbok3 ⟨rfl, hb⟩
        replace hb0 := hb0.belowAll hb
        replace hz := hz.belowAll hb
        replace hw := hw.trans (hb.mono hw.size)
        clear hb
        have hr0 := fun wx => rootr_nu (frU_ok hy) (frV_ok hy) wx
        rw [hok] at hr0
        have HRT := Lib.hid hr0
        clear hr0 hok
        go_wp2_with (first
          | (refine wpList_load_row rfl 22 (.tmp 1) rfl (w.heap.size) rfl 22 _ (0, 0) _ hb0 Tryd.underlying22 rfl (by_info _) ?_))
        refine (HOF.out _).mono ?_
        rintro e Wbok4 ⟨rfl, hb⟩
        replace hb0 := hb0.belowAll hb
        replace hz := hz.belowAll hb
        replace hw := hw.trans (hb.mono hw.size)
        clear hb
        have lt_hb0 := hb0.lt
        have lt_hz := hz.lt
        have ne_hb0_bok4 : w.heap.size ≠ Wbok4.heap.size := by omega
        have ne_hz_bok4 : w.heap.size + 1 ≠ Wbok4.heap.size := by omega
        have new_bok4 := Row.new Wbok4 (Nw 0) 30
        replace hb0 := (hb0.alloc (.cells (Nw 0).toArray 30)).setRowOther (k := Wbok4.heap.size) ne_hb0_bok4 (Nw (nu y)).toArray
        replace hz := (hz.alloc (.cells (Nw 0).toArray 30)).setRowOther (k := Wbok4.heap.size) ne_hz_bok4 (Nw (nu y)).toArray
        have h5 := new_bok4.setRow (Nw (nu y))
        have ge_bok4 := hw.size
        replace hw := below_setRow (g := Wbok4.heap.size) (hw.alloc hw.size (.cells (Nw 0).toArray 30)) hw.size (Nw (nu y)).toArray
        have NEW := Lib.hid new_bok4
        clear new_bok4 lt_hb0 lt_hz
        go_wp2_with (first
          | (refine wpList_store_row rfl 30 (.tmp 5) (.tmp 24) rfl Wbok4.heap.size _ rfl rfl 30 _ NEW.out (nw_info _) (Nw_sz _ _) (Nw_one _) ?_))
        clear NEW
        rw [zero8]
        generalize (Wbok4.alloc (.cells (Nw 0).toArray 30)).setRow Wbok4.heap.size (Nw (nu y)).toArray = Vbok4 at *
        generalize Wbok4.heap.size = g5 at *
        refine (smallr_nu 1 (by decide) _).mono ?_
        rintro e Wbok5 ⟨rfl, hb⟩
        replace hb0 := hb0.belowAll hb
        replace hz := hz.belowAll hb
        replace h5 := h5.belowAll hb
        replace hw := hw.trans (hb.mono hw.size)
        clear hb
        have lt_hb0 := hb0.lt
        have lt_hz := hz.lt
        have lt_h5 := h5.lt
        have ne_hb0_bok5 : w.heap.size ≠ Wbok5.heap.size := by omega
        have ne_hz_bok5 : w.heap.size + 1 ≠ Wbok5.heap.size := by omega
        have ne_h5_bok5 : g5 ≠ Wbok5.heap.size := by omega
        have new_bok5 := Row.new Wbok5 (Nw 0) 30
        replace hb0 := (hb0.alloc (.cells (Nw 0).toArray 30)).setRowOther (k := Wbok5.heap.size) ne_hb0_bok5 (Nw (nu (smL 1))).toArray
        replace hz := (hz.alloc (.cells (Nw 0).toArray 30)).setRowOther (k := Wbok5.heap.size) ne_hz_bok5 (Nw (nu (smL 1))).toArray
        replace h5 := (h5.alloc (.cells (Nw 0).toArray 30)).setRowOther (k := Wbok5.heap.size) ne_h5_bok5 (Nw (nu (smL 1))).toArray
        have h6 := new_bok5.setRow (Nw (nu (smL 1)))
        have ge_bok5 := hw.size
        replace hw := below_setRow (g := Wbok5.heap.size) (hw.alloc hw.size (.cells (Nw 0).toArray 30)) hw.size (Nw (nu (smL 1))).toArray
        have NEW := Lib.hid new_bok5
        clear new_bok5 lt_hb0 lt_hz lt_h5
        go_wp2_with (first
          | (refine wpList_store_row rfl 30 (.tmp 6) (.tmp 25) rfl Wbok5.heap.size _ rfl rfl 30 _ NEW.out (nw_info _) (Nw_sz _ _) (Nw_one _) ?_)
          | (refine wpList_load_row rfl 30 (.tmp 5) rfl (g5) rfl 30 _ (0, 0) _ h5 Tryd.underlying30 rfl (nw_info _) ?_))
        clear NEW
        rw [zero8]
        generalize (Wbok5.alloc (.cells (Nw 0).toArray 30)).setRow Wbok5.heap.size (Nw (nu (smL 1))).toArray = Vbok5 at *
        generalize Wbok5.heap.size = g6 at *
        refine (mulr_nu y y _).mono ?_
        rintro e Wbok6 ⟨rfl, hb⟩
        replace hb0 := hb0.belowAll hb
        replace hz := hz.belowAll hb
        replace h5 := h5.belowAll hb
        replace h6 := h6.belowAll hb
        replace hw := hw.trans (hb.mono hw.size)
        clear hb
        have lt_hb0 := hb0.lt
        have lt_hz := hz.lt
        have lt_h5 := h5.lt
        have lt_h6 := h6.lt
        have ne_hb0_bok6 : w.heap.size ≠ Wbok6.heap.size := by omega
        have ne_hz_bok6 : w.heap.size + 1 ≠ Wbok6.heap.size := by omega
        have ne_h5_bok6 : g5 ≠ Wbok6.heap.size := by omega
        have ne_h6_bok6 : g6 ≠ Wbok6.heap.size := by omega
        have new_bok6 := Row.new Wbok6 (Nw 0) 30
        replace hb0 := (hb0.alloc (.cells (Nw 0).toArray 30)).setRowOther (k := Wbok6.heap.size) ne_hb0_bok6 (Nw (nu (mulL y y))).toArray
        replace hz := (hz.alloc (.cells (Nw 0).toArray 30)).setRowOther (k := Wbok6.heap.size) ne_hz_bok6 (Nw (nu (mulL y y))).toArray
        replace h5 := (h5.alloc (.cells (Nw 0).toArray 30)).setRowOther (k := Wbok6.heap.size) ne_h5_bok6 (Nw (nu (mulL y y))).toArray
        replace h6 := (h6.alloc (.cells (Nw 0).toArray 30)).setRowOther (k := Wbok6.heap.size) ne_h6_bok6 (Nw (nu (mulL y y))).toArray
        have h7 := new_bok6.setRow (Nw (nu (mulL y y)))
        have ge_bok6 := hw.size
        replace hw := below_setRow (g := Wbok6.heap.size) (hw.alloc hw.size (.cells (Nw 0).toArray 30)) hw.size (Nw (nu (mulL y y))).toArray
        have NEW := Lib.hid new_bok6
        clear new_bok6 lt_hb0 lt_hz lt_h5 lt_h6
        go_wp2_with (first
          | (refine wpList_store_row rfl 30 (.tmp 7) (.tmp 28) rfl Wbok6.heap.size _ rfl rfl 30 _ NEW.out (nw_info _) (Nw_sz _ _) (Nw_one _) ?_))
        clear NEW
        rw [zero8]
        generalize (Wbok6.alloc (.cells (Nw 0).toArray 30)).setRow Wbok6.heap.size (Nw (nu (mulL y y))).toArray = Vbok6 at *
        generalize Wbok6.heap.size = g7 at *
        have lt_hb0 := hb0.lt
        have lt_hz := hz.lt
        have lt_h5 := h5.lt
        have lt_h6 := h6.lt
        have lt_h7 := h7.lt
        refine wp_vars_one (aD := ?aDbok7) (B := Vbok6.heap.size) (S := fun w' => Below Vbok6.heap.size Vbok6 w') (k1 := 12) (s1 := 13) (T1 := 30) (L1 := 30) (z1 := Nw 0) (c1 := Nw (nu (rootL (frU y) (frV y)))) (x1 := .tmp 8) (y1 := .tmp 39)
          (vs := [(0, .agg (Nw (nu (mulL y y))).toArray), (1, .agg (Nw (nu (smL 1))).toArray), (2, .agg (Nw (nu (subL (mulL y y) (smL 1)))).toArray), (3, .agg (Nw (nu dL)).toArray), (4, .agg (Nw (nu (mulL y y))).toArray), (5, .agg (Nw (nu (mulL dL (mulL y y)))).toArray), (6, .agg (Nw (nu (smL 1))).toArray), (7, .agg (Nw (nu (addL (mulL dL (mulL y y)) (smL 1)))).toArray), (8, .tuple #[.agg (Nw (nu (rootL (frU y) (frV y)))).toArray, .bool false]), (9, .tuple #[.agg (Nw (nu (rootL (frU y) (frV y)))).toArray, .bool false]), (10, .agg (Nw (nu (rootL (frU y) (frV y)))).toArray), (11, .bool false), (14, .bool false)]) (by kernel_rfl) ((Below.refl _ _).drew) (fun _ _ h k => S_trans h k) (fun _ _ cs h hg => S_row h hg cs) (fun _ h => h.size) ?hDbok7 (.of rfl rfl rfl (fun w' => nw_alloc w')) ?hkbok7 rfl rfl (some 8) rfl rfl rfl ?ebok71 ?fbok71 (nw_info _) (Nw_sz _ _) (Nw_one _) ?hbok7
        case hDbok7 =>
          refine .step (some 30) rfl rfl (by kernel_rfl) (Gives.load_row 30 (.tmp 7) rfl (g7) rfl 30 _ (fun w' h => h7.belowAll h) Tryd.underlying30 rfl (nw_info _)) ?_
          simp only [Act.put, List.setIfInBounds_toArray, List.set_cons_zero, List.set_cons_succ]
          refine .step (some 31) rfl rfl (by kernel_rfl) (Gives.load_row 30 (.tmp 6) rfl (g6) rfl 30 _ (fun w' h => h6.belowAll h) Tryd.underlying30 rfl (nw_info _)) ?_
          simp only [Act.put, List.setIfInBounds_toArray, List.set_cons_zero, List.set_cons_succ]
          refine .step (some 32) rfl rfl (by kernel_rfl) (Gives.call (args := [.agg (Nw (nu (mulL y y))).toArray, .agg (Nw (nu (smL 1))).toArray]) rfl Tryd.func30 (by kernel_rfl) (by kernel_rfl) rfl (fun w' h => subr_nu (mulL y y) sm_ok1 w')) ?_
          simp only [Act.put, List.setIfInBounds_toArray, List.set_cons_zero, List.set_cons_succ]
          refine .step (some 33) rfl rfl (by kernel_rfl) (Gives.call (args := []) rfl Tryd.func52 (by kernel_rfl) (by kernel_rfl) rfl (fun w' h => d_ref w')) ?_
          simp only [Act.put, List.setIfInBounds_toArray, List.set_cons_zero, List.set_cons_succ]
          refine .step (some 34) rfl rfl (by kernel_rfl) (Gives.load_row 30 (.tmp 7) rfl (g7) rfl 30 _ (fun w' h => h7.belowAll h) Tryd.underlying30 rfl (nw_info _)) ?_
          simp only [Act.put, List.setIfInBounds_toArray, List.set_cons_zero, List.set_cons_succ]
          refine .step (some 35) rfl rfl (by kernel_rfl) (Gives.call (args := [.agg (Nw (nu dL)).toArray, .agg (Nw (nu (mulL y y))).toArray]) rfl Tryd.func32 (by kernel_rfl) (by kernel_rfl) rfl (fun w' h => mulr_nu dL (mulL y y) w')) ?_
          simp only [Act.put, List.setIfInBounds_toArray, List.set_cons_zero, List.set_cons_succ]
          refine .step (some 36) rfl rfl (by kernel_rfl) (Gives.load_row 30 (.tmp 6) rfl (g6) rfl 30 _ (fun w' h => h6.belowAll h) Tryd.underlying30 rfl (nw_info _)) ?_
          simp only [Act.put, List.setIfInBounds_toArray, List.set_cons_zero, List.set_cons_succ]
          refine .step (some 37) rfl rfl (by kernel_rfl) (Gives.call (args := [.agg (Nw (nu (mulL dL (mulL y y)))).toArray, .agg (Nw (nu (smL 1))).toArray]) rfl Tryd.func28 (by kernel_rfl) (by kernel_rfl) rfl (fun w' h => addr_nu (mulL dL (mulL y y)) (smL 1) w')) ?_
          simp only [Act.put, List.setIfInBounds_toArray, List.set_cons_zero, List.set_cons_succ]
          refine .step (some 38) rfl rfl (by kernel_rfl) (Gives.call (args := [.agg (Nw (nu (subL (mulL y y) (smL 1)))).toArray, .agg (Nw (nu (addL (mulL dL (mulL y y)) (smL 1)))).toArray]) rfl Tryd.func41 (by kernel_rfl) (by kernel_rfl) rfl (fun w' h => HRT.out w')) ?_
          simp only [Act.put, List.setIfInBounds_toArray, List.set_cons_zero, List.set_cons_succ]
          refine .step (some 29) rfl rfl (by kernel_rfl) (Gives.move (x := (.tmp 38)) rfl rfl) ?_
          simp only [Act.put, List.setIfInBounds_toArray, List.set_cons_zero, List.set_cons_succ]
          refine .step (some 39) rfl rfl (by kernel_rfl) (Gives.extract (.tmp 29) 0 rfl _ _ rfl (fun w' => tu_ext0 _ _ w')) ?_
          simp only [Act.put, List.setIfInBounds_toArray, List.set_cons_zero, List.set_cons_succ]
          refine .step (some 40) rfl rfl (by kernel_rfl) (Gives.extract (.tmp 29) 1 rfl _ _ rfl (fun w' => tu_ext1 _ _ w')) ?_
          simp only [Act.put, List.setIfInBounds_toArray, List.set_cons_zero, List.set_cons_succ]
          refine .step (some 9) rfl rfl (by kernel_rfl) (Gives.assign (x := (.tmp 40)) rfl rfl) ?_
          simp only [Act.put, List.setIfInBounds_toArray, List.set_cons_zero, List.set_cons_succ]
          exact .nil
        case hkbok7 => kernel_rfl
        case ebok71 => intro i1; rfl
        case fbok71 => intro i1; rfl
        case hbok7 =>
        intro g8 Wbok7 hb hgbok7 h8
  
        have ge_g8 := Nat.le_trans hw.size hgbok7
        have ne_hb0_g8 : w.heap.size ≠ g8 := by omega
        have ne_hz_g8 : w.heap.size + 1 ≠ g8 := by omega
        have ne_h5_g8 : g5 ≠ g8 := by omega
        have ne_h6_g8 : g6 ≠ g8 := by omega
        have ne_h7_g8 : g7 ≠ g8 := by omega
        clear lt_hb0 lt_hz lt_h5 lt_h6 lt_h7
        replace hb0 := hb0.belowAll hb
        replace hz := hz.belowAll hb
        replace h5 := h5.belowAll hb
        replace h6 := h6.belowAll hb
        replace h7 := h7.belowAll hb
        replace hw := hw.trans (hb.mono hw.size)
        clear hb
        go_wp2_with fail
        refine (zr_ref _).mono ?_
        rintro e Wbok8 ⟨rfl, hb⟩
        replace hb0 := hb0.belowAll hb
        replace hz := hz.belowAll hb
        replace h5 := h5.belowAll hb
        replace h6 := h6.belowAll hb
        replace h7 := h7.belowAll hb
        replace h8 := h8.belowAll hb
        replace hw := hw.trans (hb.mono hw.size)
        clear hb
        have hgot := setRow_heap _ (w.heap.size + 1) _ (RL ⟨zeL, smL 1, smL 1⟩).toArray _ _ hz
        have HGOT := Lib.hid hgot
        have HW := Lib.hid hw
        clear hgot hw
        go_wp2_with (first
          | (refine wpList_store_row rfl 62 (.tmp 2) (.tmp 51) rfl (w.heap.size + 1) _ rfl rfl 62 _ hz (rl_info _) (RL_sz _ _) (RL_one _) ?_))
        refine bodyPost_ret (results_row_slot (by rfl) _ _ (w.heap.size + 1) _ _ _ _ (.bool false) (by rfl) HGOT.out Tryd.underlying62 rfl (rl_info _) (by rfl)) rfl ?_
        exact ⟨⟨_, by rw [HDEC.out], fun h => absurd (HDEC.out.symm.trans h) (by decide)⟩, below_setRow HW.out (by omega) _⟩
    · replace hcan := (Bool.not_eq_true _).mp hcan
      have HDEC := Lib.hid (show decOk N = false by unfold decOk; rw [hcan]; cases rootOk (frU (ofB (N % 57896044618658097711785492504343953926634992332820282019728792003956564819968))) (frV (ofB (N % 57896044618658097711785492504343953926634992332820282019728792003956564819968))) <;> rfl)
      have hc := byt_lt N 31
      have hset := By_set31 N
      have hcell := ((Row.new w (By N 32) 22).alloc (.cells #[.int .u32 0, .int .u32 0, .int .u32 0, .int .u32 0, .int .u32 0, .int .u32 0, .int .u32 0, .int .u32 0, .int .u32 0, .int .u32 0, .int .u32 0, .int .u32 0, .int .u32 0, .int .u32 0, .int .u32 0, .int .u32 0, .int .u32 0, .int .u32 0, .int .u32 0, .int .u32 0, .int .u32 0, .int .u32 0, .int .u32 0, .int .u32 0] 62)).cell (By_get N 32 (k := 31) (by decide))
      have hfree := ((Row.new w (By N 32) 22).alloc (.cells #[.int .u32 0, .int .u32 0, .int .u32 0, .int .u32 0, .int .u32 0, .int .u32 0, .int .u32 0, .int .u32 0, .int .u32 0, .int .u32 0, .int .u32 0, .int .u32 0, .int .u32 0, .int .u32 0, .int .u32 0, .int .u32 0, .int .u32 0, .int .u32 0, .int .u32 0, .int .u32 0, .int .u32 0, .int .u32 0, .int .u32 0, .int .u32 0] 62)).free 31
      have hge := ge_hi_true hoth
      have e31 : (((byt N 31 : Nat) : Int) % 128) = ((byt N 31 % 128 : Nat) : Int) := by omega
      have hb0 : Row ((w.alloc (.cells ((By N 32).set 31 (.int .u8 (((byt N 31 : Nat) : Int) % 128))).toArray 22)).alloc (.cells #[.int .u32 0, .int .u32 0, .int .u32 0, .int .u32 0, .int .u32 0, .int .u32 0, .int .u32 0, .int .u32 0, .int .u32 0, .int .u32 0, .int .u32 0, .int .u32 0, .int .u32 0, .int .u32 0, .int .u32 0, .int .u32 0, .int .u32 0, .int .u32 0, .int .u32 0, .int .u32 0, .int .u32 0, .int .u32 0, .int .u32 0, .int .u32 0] 62)) w.heap.size 22 (By (N % 57896044618658097711785492504343953926634992332820282019728792003956564819968) 32) := by
        rw [e31, hset]
        exact (Row.new w _ 22).alloc _
      have hz : Row ((w.alloc (.cells ((By N 32).set 31 (.int .u8 (((byt N 31 : Nat) : Int) % 128))).toArray 22)).alloc (.cells #[.int .u32 0, .int .u32 0, .int .u32 0, .int .u32 0, .int .u32 0, .int .u32 0, .int .u32 0, .int .u32 0, .int .u32 0, .int .u32 0, .int .u32 0, .int .u32 0, .int .u32 0, .int .u32 0, .int .u32 0, .int .u32 0, .int .u32 0, .int .u32 0, .int .u32 0, .int .u32 0, .int .u32 0, .int .u32 0, .int .u32 0, .int .u32 0] 62)) (w.heap.size + 1) 62 (RL zeR) := by
        rw [RL_zero]
        exact Row.new1 w _ _ _
      have hw := Below.alloc2 w (.cells ((By N 32).set 31 (.int .u8 (((byt N 31 : Nat) : Int) % 128))).toArray 22) (.cells #[.int .u32 0, .int .u32 0, .int .u32 0, .int .u32 0, .int .u32 0, .int .u32 0, .int .u32 0, .int .u32 0, .int .u32 0, .int .u32 0, .int .u32 0, .int .u32 0, .int .u32 0, .int .u32 0, .int .u32 0, .int .u32 0, .int .u32 0, .int .u32 0, .int .u32 0, .int .u32 0, .int .u32 0, .int .u32 0, .int .u32 0, .int .u32 0] 62)
      clear hset e31
      generalize N % 57896044618658097711785492504343953926634992332820282019728792003956564819968 = M at *
      generalize byt N 31 = c at *
      have hraw := fun wx => raw_ref M HMM.out wx
      have hless := fun wx => less_is (show M < W8 from HMM.out) pp_W8 hcan wx
      have hof := fun wx => ofr_nu M wx
      have hy := ofB_ok M
      generalize ofB M = y at *
      have HRAW := Lib.hid hraw
      have HLESS := Lib.hid hless
      have HOF := Lib.hid hof
      clear hraw hless hof
      go_enter Tryd.func43, Tryd.ntmps43
      go_wp2_with (first
        | (refine wpList_load_row rfl 22 (.tmp 1) rfl (w.heap.size) rfl 22 _ (0, 0) _ hb0 Tryd.underlying22 rfl (by_info _) ?_))
      refine (HRAW.out _).mono ?_
      rintro e Waon1 ⟨rfl, hb⟩
      replace hb0 := hb0.belowAll hb
      replace hz := hz.belowAll hb
      replace hw := hw.trans (hb.mono hw.size)
      clear hb
      go_wp2_with fail
      refine (P_any _).mono ?_
      rintro e Waon2 ⟨rfl, hb⟩
      replace hb0 := hb0.belowAll hb
      replace hz := hz.belowAll hb
      replace hw := hw.trans (hb.mono hw.size)
      clear hb
      go_wp2_with fail
      refine (HLESS.out _).mono ?_
      rintro e Waon3 ⟨rfl, hb⟩
      replace hb0 := hb0.belowAll hb
      replace hz := hz.belowAll hb
      replace hw := hw.trans (hb.mono hw.size)
      clear hb
      go_wp2_with fail
      refine (zr_ref _).mono ?_
      rintro e Waon4 ⟨rfl, hb⟩
      replace hb0 := hb0.belowAll hb
      replace hz := hz.belowAll hb
      replace hw := hw.trans (hb.mono hw.size)
      clear hb
      have hgot := setRow_heap _ (w.heap.size + 1) _ (RL ⟨zeL, smL 1, smL 1⟩).toArray _ _ hz
      have HGOT := Lib.hid hgot
      have HW := Lib.hid hw
      clear hgot hw
      go_wp2_with (first
        | (refine wpList_store_row rfl 62 (.tmp 2) (.tmp 22) rfl (w.heap.size + 1) _ rfl rfl 62 _ hz (rl_info _) (RL_sz _ _) (RL_one _) ?_))
      refine bodyPost_ret (results_row_slot (by rfl) _ _ (w.heap.size + 1) _ _ _ _ (.bool false) (by rfl) HGOT.out Tryd.underlying62 rfl (rl_info _) (by rfl)) rfl ?_
      exact ⟨⟨_, by rw [HDEC.out], fun h => absurd (HDEC.out.symm.trans h) (by decide)⟩, below_setRow HW.out (by omega) _⟩
  · by_cases hcan : decide (N % 57896044618658097711785492504343953926634992332820282019728792003956564819968 < pp) = true
    · by_cases hok : rootOk (frU (ofB (N % 57896044618658097711785492504343953926634992332820282019728792003956564819968))) (frV (ofB (N % 57896044618658097711785492504343953926634992332820282019728792003956564819968))) = true
      · have HDEC := Lib.hid (show decOk N = true by unfold decOk; rw [hok, hcan, decide_eq_false hoth]; rfl)
        have hc := byt_lt N 31
        have hset := By_set31 N
        have hcell := ((Row.new w (By N 32) 22).alloc (.cells #[.int .u32 0, .int .u32 0, .int .u32 0, .int .u32 0, .int .u32 0, .int .u32 0, .int .u32 0, .int .u32 0, .int .u32 0, .int .u32 0, .int .u32 0, .int .u32 0, .int .u32 0, .int .u32 0, .int .u32 0, .int .u32 0, .int .u32 0, .int .u32 0, .int .u32 0, .int .u32 0, .int .u32 0, .int .u32 0, .int .u32 0, .int .u32 0] 62)).cell (By_get N 32 (k := 31) (by decide))
        have hfree := ((Row.new w (By N 32) 22).alloc (.cells #[.int .u32 0, .int .u32 0, .int .u32 0, .int .u32 0, .int .u32 0, .int .u32 0, .int .u32 0, .int .u32 0, .int .u32 0, .int .u32 0, .int .u32 0, .int .u32 0, .int .u32 0, .int .u32 0, .int .u32 0, .int .u32 0, .int .u32 0, .int .u32 0, .int .u32 0, .int .u32 0, .int .u32 0, .int .u32 0, .int .u32 0, .int .u32 0] 62)).free 31
        have hge := ge_hi_false hoth
        have e31 : (((byt N 31 : Nat) : Int) % 128) = ((byt N 31 % 128 : Nat) : Int) := by omega
        have hb0 : Row ((w.alloc (.cells ((By N 32).set 31 (.int .u8 (((byt N 31 : Nat) : Int) % 128))).toArray 22)).alloc (.cells #[.int .u32 0, .int .u32 0, .int .u32 0, .int .u32 0, .int .u32 0, .int .u32 0, .int .u32 0, .int .u32 0, .int .u32 0, .int .u32 0, .int .u32 0, .int .u32 0, .int .u32 0, .int .u32 0, .int .u32 0, .int .u32 0, .int .u32 0, .int .u32 0, .int .u32 0, .int .u32 0, .int .u32 0, .int .u32 0, .int .u32 0, .int .u32 0] 62)) w.heap.size 22 (By (N % 57896044618658097711785492504343953926634992332820282019728792003956564819968) 32) := by
          rw [e31, hset]
          exact (Row.new w _ 22).alloc _
        have hz : Row ((w.alloc (.cells ((By N 32).set 31 (.int .u8 (((byt N 31 : Nat) : Int) % 128))).toArray 22)).alloc (.cells #[.int .u32 0, .int .u32 0, .int .u32 0, .int .u32 0, .int .u32 0, .int .u32 0, .int .u32 0, .int .u32 0, .int .u32 0, .int .u32 0, .int .u32 0, .int .u32 0, .int .u32 0, .int .u32 0, .int .u32 0, .int .u32 0, .int .u32 0, .int .u32 0, .int .u32 0, .int .u32 0, .int .u32 0, .int .u32 0, .int .u32 0, .int .u32 0] 62)) (w.heap.size + 1) 62 (RL zeR) := by
          rw [RL_zero]
          exact Row.new1 w _ _ _
        have hw := Below.alloc2 w (.cells ((By N 32).set 31 (.int .u8 (((byt N 31 : Nat) : Int) % 128))).toArray 22) (.cells #[.int .u32 0, .int .u32 0, .int .u32 0, .int .u32 0, .int .u32 0, .int .u32 0, .int .u32 0, .int .u32 0, .int .u32 0, .int .u32 0, .int .u32 0, .int .u32 0, .int .u32 0, .int .u32 0, .int .u32 0, .int .u32 0, .int .u32 0, .int .u32 0, .int .u32 0, .int .u32 0, .int .u32 0, .int .u32 0, .int .u32 0, .int .u32 0] 62)
        clear hset e31
        generalize N % 57896044618658097711785492504343953926634992332820282019728792003956564819968 = M at *
        generalize byt N 31 = c at *
        have hraw := fun wx => raw_ref M HMM.out wx
        have hless := fun wx => less_is (show M < W8 from HMM.out) pp_W8 hcan wx
        have hof := fun wx => ofr_nu M wx
        have hy := ofB_ok M
        generalize ofB M = y at *
        have HRAW := Lib.hid hraw
        have HLESS := Lib.hid hless
        have HOF := Lib.hid hof
        clear hraw hless hof
        go_enter Tryd.func43, Tryd.ntmps43
        go_wp2_with (first
          | (refine wpList_load_row rfl 22 (.tmp 1) rfl (w.heap.size) rfl 22 _ (0, 0) _ hb0 Tryd.underlying22 rfl (by_info _) ?_))
        refine (HRAW.out _).mono ?_
        rintro e Wwek1 ⟨rfl, hb⟩
        replace hb0 := hb0.belowAll hb
        replace hz := hz.belowAll hb
        replace hw := hw.trans (hb.mono hw.size)
        clear hb
        go_wp2_with fail
        refine (P_any _).mono ?_
        rintro e Wwek2 ⟨rfl, hb⟩
        replace hb0 := hb0.belowAll hb
        replace hz := hz.belowAll hb
        replace hw := hw.trans (hb.mono hw.size)
        clear hb
        go_wp2_with fail
        refine (HLESS.out _).mono ?_
        rintro e Wwek3 ⟨rfl, hb⟩
        replace hb0 := hb0.belowAll hb
        replace hz := hz.belowAll hb
        replace hw := hw.trans (hb.mono hw.size)
        clear hb
        have hr0 := fun wx => rootr_nu (frU_ok hy) (frV_ok hy) wx
        rw [hok] at hr0
        have HRT := Lib.hid hr0
        clear hr0 hok
        go_wp2_with (first
          | (refine wpList_load_row rfl 22 (.tmp 1) rfl (w.heap.size) rfl 22 _ (0, 0) _ hb0 Tryd.underlying22 rfl (by_info _) ?_))
        refine (HOF.out _).mono ?_
        rintro e Wwek4 ⟨rfl, hb⟩
        replace hb0 := hb0.belowAll hb
        replace hz := hz.belowAll hb
        replace hw := hw.trans (hb.mono hw.size)
        clear hb
        have lt_hb0 := hb0.lt
        have lt_hz := hz.lt
        have ne_hb0_wek4 : w.heap.size ≠ Wwek4.heap.size := by omega
        have ne_hz_wek4 : w.heap.size + 1 ≠ Wwek4.heap.size := by omega
        have new_wek4 := Row.new Wwek4 (Nw 0) 30
        replace hb0 := (hb0.alloc (.cells (Nw 0).toArray 30)).setRowOther (k := Wwek4.heap.size) ne_hb0_wek4 (Nw (nu y)).toArray
        replace hz := (hz.alloc (.cells (Nw 0).toArray 30)).setRowOther (k := Wwek4.heap.size) ne_hz_wek4 (Nw (nu y)).toArray
        have h5 := new_wek4.setRow (Nw (nu y))
        have ge_wek4 := hw.size
        replace hw := below_setRow (g := Wwek4.heap.size) (hw.alloc hw.size (.cells (Nw 0).toArray 30)) hw.size (Nw (nu y)).toArray
        have NEW := Lib.hid new_wek4
        clear new_wek4 lt_hb0 lt_hz
        go_wp2_with (first
          | (refine wpList_store_row rfl 30 (.tmp 5) (.tmp 24) rfl Wwek4.heap.size _ rfl rfl 30 _ NEW.out (nw_info _) (Nw_sz _ _) (Nw_one _) ?_))
        clear NEW
        rw [zero8]
        generalize (Wwek4.alloc (.cells (Nw 0).toArray 30)).setRow Wwek4.heap.size (Nw (nu y)).toArray = Vwek4 at *
        generalize Wwek4.heap.size = g5 at *
        refine (smallr_nu 1 (by decide) _).mono ?_
        rintro e Wwek5 ⟨rfl, hb⟩
        replace hb0 := hb0.belowAll hb
        replace hz := hz.belowAll hb
        replace h5 := h5.belowAll hb
        replace hw := hw.trans (hb.mono hw.size)
        clear hb
        have lt_hb0 := hb0.lt
        have lt_hz := hz.lt
        have lt_h5 := h5.lt
        have ne_hb0_wek5 : w.heap.size ≠ Wwek5.heap.size := by omega
        have ne_hz_wek5 : w.heap.size + 1 ≠ Wwek5.heap.size := by omega
        have ne_h5_wek5 : g5 ≠ Wwek5.heap.size := by omega
        have new_wek5 := Row.new Wwek5 (Nw 0) 30
        replace hb0 := (hb0.alloc (.cells (Nw 0).toArray 30)).setRowOther (k := Wwek5.heap.size) ne_hb0_wek5 (Nw (nu (smL 1))).toArray
        replace hz := (hz.alloc (.cells (Nw 0).toArray 30)).setRowOther (k := Wwek5.heap.size) ne_hz_wek5 (Nw (nu (smL 1))).toArray
        replace h5 := (h5.alloc (.cells (Nw 0).toArray 30)).setRowOther (k := Wwek5.heap.size) ne_h5_wek5 (Nw (nu (smL 1))).toArray
        have h6 := new_wek5.setRow (Nw (nu (smL 1)))
        have ge_wek5 := hw.size
        replace hw := below_setRow (g := Wwek5.heap.size) (hw.alloc hw.size (.cells (Nw 0).toArray 30)) hw.size (Nw (nu (smL 1))).toArray
        have NEW := Lib.hid new_wek5
        clear new_wek5 lt_hb0 lt_hz lt_h5
        go_wp2_with (first
          | (refine wpList_store_row rfl 30 (.tmp 6) (.tmp 25) rfl Wwek5.heap.size _ rfl rfl 30 _ NEW.out (nw_info _) (Nw_sz _ _) (Nw_one _) ?_)
          | (refine wpList_load_row rfl 30 (.tmp 5) rfl (g5) rfl 30 _ (0, 0) _ h5 Tryd.underlying30 rfl (nw_info _) ?_))
        clear NEW
        rw [zero8]
        generalize (Wwek5.alloc (.cells (Nw 0).toArray 30)).setRow Wwek5.heap.size (Nw (nu (smL 1))).toArray = Vwek5 at *
        generalize Wwek5.heap.size = g6 at *
        refine (mulr_nu y y _).mono ?_
        rintro e Wwek6 ⟨rfl, hb⟩
        replace hb0 := hb0.belowAll hb
        replace hz := hz.belowAll hb
        replace h5 := h5.belowAll hb
        replace h6 := h6.belowAll hb
        replace hw := hw.trans (hb.mono hw.size)
        clear hb
        have lt_hb0 := hb0.lt
        have lt_hz := hz.lt
        have lt_h5 := h5.lt
        have lt_h6 := h6.lt
        have ne_hb0_wek6 : w.heap.size ≠ Wwek6.heap.size := by omega
        have ne_hz_wek6 : w.heap.size + 1 ≠ Wwek6.heap.size := by omega
        have ne_h5_wek6 : g5 ≠ Wwek6.heap.size := by omega
        have ne_h6_wek6 : g6 ≠ Wwek6.heap.size := by omega
        have new_wek6 := Row.new Wwek6 (Nw 0) 30
        replace hb0 := (hb0.alloc (.cells (Nw 0).toArray 30)).setRowOther (k := Wwek6.heap.size) ne_hb0_wek6 (Nw (nu (mulL y y))).toArray
        replace hz := (hz.alloc (.cells (Nw 0).toArray 30)).setRowOther (k := Wwek6.heap.size) ne_hz_wek6 (Nw (nu (mulL y y))).toArray
        replace h5 := (h5.alloc (.cells (Nw 0).toArray 30)).setRowOther (k := Wwek6.heap.size) ne_h5_wek6 (Nw (nu (mulL y y))).toArray
        replace h6 := (h6.alloc (.cells (Nw 0).toArray 30)).setRowOther (k := Wwek6.heap.size) ne_h6_wek6 (Nw (nu (mulL y y))).toArray
        have h7 := new_wek6.setRow (Nw (nu (mulL y y)))
        have ge_wek6 := hw.size
        replace hw := below_setRow (g := Wwek6.heap.size) (hw.alloc hw.size (.cells (Nw 0).toArray 30)) hw.size (Nw (nu (mulL y y))).toArray
        have NEW := Lib.hid new_wek6
        clear new_wek6 lt_hb0 lt_hz lt_h5 lt_h6
        go_wp2_with (first
          | (refine wpList_store_row rfl 30 (.tmp 7) (.tmp 28) rfl Wwek6.heap.size _ rfl rfl 30 _ NEW.out (nw_info _) (Nw_sz _ _) (Nw_one _) ?_))
        clear NEW
        rw [zero8]
        generalize (Wwek6.alloc (.cells (Nw 0).toArray 30)).setRow Wwek6.heap.size (Nw (nu (mulL y y))).toArray = Vwek6 at *
        generalize Wwek6.heap.size = g7 at *
        have lt_hb0 := hb0.lt
        have lt_hz := hz.lt
        have lt_h5 := h5.lt
        have lt_h6 := h6.lt
        have lt_h7 := h7.lt
        refine wp_vars_one (aD := ?aDwek7) (B := Vwek6.heap.size) (S := fun w' => Below Vwek6.heap.size Vwek6 w') (k1 := 12) (s1 := 13) (T1 := 30) (L1 := 30) (z1 := Nw 0) (c1 := Nw (nu (rootL (frU y) (frV y)))) (x1 := .tmp 8) (y1 := .tmp 39)
          (vs := [(0, .agg (Nw (nu (mulL y y))).toArray), (1, .agg (Nw (nu (smL 1))).toArray), (2, .agg (Nw (nu (subL (mulL y y) (smL 1)))).toArray), (3, .agg (Nw (nu dL)).toArray), (4, .agg (Nw (nu (mulL y y))).toArray), (5, .agg (Nw (nu (mulL dL (mulL y y)))).toArray), (6, .agg (Nw (nu (smL 1))).toArray), (7, .agg (Nw (nu (addL (mulL dL (mulL y y)) (smL 1)))).toArray), (8, .tuple #[.agg (Nw (nu (rootL (frU y) (frV y)))).toArray, .bool true]), (9, .tuple #[.agg (Nw (nu (rootL (frU y) (frV y)))).toArray, .bool true]), (10, .agg (Nw (nu (rootL (frU y) (frV y)))).toArray), (11, .bool true), (14, .bool true)]) (by kernel_rfl) ((Below.refl _ _).drew) (fun _ _ h k => S_trans h k) (fun _ _ cs h hg => S_row h hg cs) (fun _ h => h.size) ?hDwek7 (.of rfl rfl rfl (fun w' => nw_alloc w')) ?hkwek7 rfl rfl (some 8) rfl rfl rfl ?ewek71 ?fwek71 (nw_info _) (Nw_sz _ _) (Nw_one _) ?hwek7
        case hDwek7 =>
          refine .step (some 30) rfl rfl (by kernel_rfl) (Gives.load_row 30 (.tmp 7) rfl (g7) rfl 30 _ (fun w' h => h7.belowAll h) Tryd.underlying30 rfl (nw_info _)) ?_
          simp only [Act.put, List.setIfInBounds_toArray, List.set_cons_zero, List.set_cons_succ]
          refine .step (some 31) rfl rfl (by kernel_rfl) (Gives.load_row 30 (.tmp 6) rfl (g6) rfl 30 _ (fun w' h => h6.belowAll h) Tryd.underlying30 rfl (nw_info _)) ?_
          simp only [Act.put, List.setIfInBounds_toArray, List.set_cons_zero, List.set_cons_succ]
          refine .step (some 32) rfl rfl (by kernel_rfl) (Gives.call (args := [.agg (Nw (nu (mulL y y))).toArray, .agg (Nw (nu (smL 1))).toArray]) rfl Tryd.func30 (by kernel_rfl) (by kernel_rfl) rfl (fun w' h => subr_nu (mulL y y) sm_ok1 w')) ?_
          simp only [Act.put, List.setIfInBounds_toArray, List.set_cons_zero, List.set_cons_succ]
          refine .step (some 33) rfl rfl (by kernel_rfl) (Gives.call (args := []) rfl Tryd.func52 (by kernel_rfl) (by kernel_rfl) rfl (fun w' h => d_ref w')) ?_
          simp only [Act.put, List.setIfInBounds_toArray, List.set_cons_zero, List.set_cons_succ]
          refine .step (some 34) rfl rfl (by kernel_rfl) (Gives.load_row 30 (.tmp 7) rfl (g7) rfl 30 _ (fun w' h => h7.belowAll h) Tryd.underlying30 rfl (nw_info _)) ?_
          simp only [Act.put, List.setIfInBounds_toArray, List.set_cons_zero, List.set_cons_succ]
          refine .step (some 35) rfl rfl (by kernel_rfl) (Gives.call (args := [.agg (Nw (nu dL)).toArray, .agg (Nw (nu (mulL y y))).toArray]) rfl Tryd.func32 (by kernel_rfl) (by kernel_rfl) rfl (fun w' h => mulr_nu dL (mulL y y) w')) ?_
          simp only [Act.put, List.setIfInBounds_toArray, List.set_cons_zero, List.set_cons_succ]
          refine .step (some 36) rfl rfl (by kernel_rfl) (Gives.load_row 30 (.tmp 6) rfl (g6) rfl 30 _ (fun w' h => h6.belowAll h) Tryd.underlying30 rfl (nw_info _)) ?_
          simp only [Act.put, List.setIfInBounds_toArray, List.set_cons_zero, List.set_cons_succ]
          refine .step (some 37) rfl rfl (by kernel_rfl) (Gives.call (args := [.agg (Nw (nu (mulL dL (mulL y y)))).toArray, .agg (Nw (nu (smL 1))).toArray]) rfl Tryd.func28 (by kernel_rfl) (by kernel_rfl) rfl (fun w' h => addr_nu (mulL dL (mulL y y)) (smL 1) w')) ?_
          simp only [Act.put, List.setIfInBounds_toArray, List.set_cons_zero, List.set_cons_succ]
          refine .step (some 38) rfl rfl (by kernel_rfl) (Gives.call (args := [.agg (Nw (nu (subL (mulL y y) (smL 1)))).toArray, .agg (Nw (nu (addL (mulL dL (mulL y y)) (smL 1)))).toArray]) rfl Tryd.func41 (by kernel_rfl) (by kernel_rfl) rfl (fun w' h => HRT.out w')) ?_
          simp only [Act.put, List.setIfInBounds_toArray, List.set_cons_zero, List.set_cons_succ]
          refine .step (some 29) rfl rfl (by kernel_rfl) (Gives.move (x := (.tmp 38)) rfl rfl) ?_
          simp only [Act.put, List.setIfInBounds_toArray, List.set_cons_zero, List.set_cons_succ]
          refine .step (some 39) rfl rfl (by kernel_rfl) (Gives.extract (.tmp 29) 0 rfl _ _ rfl (fun w' => tu_ext0 _ _ w')) ?_
          simp only [Act.put, List.setIfInBounds_toArray, List.set_cons_zero, List.set_cons_succ]
          refine .step (some 40) rfl rfl (by kernel_rfl) (Gives.extract (.tmp 29) 1 rfl _ _ rfl (fun w' => tu_ext1 _ _ w')) ?_
          simp only [Act.put, List.setIfInBounds_toArray, List.set_cons_zero, List.set_cons_succ]
          refine .step (some 9) rfl rfl (by kernel_rfl) (Gives.assign (x := (.tmp 40)) rfl rfl) ?_
          simp only [Act.put, List.setIfInBounds_toArray, List.set_cons_zero, List.set_cons_succ]
          exact .nil
        case hkwek7 => kernel_rfl
        case ewek71 => intro i1; rfl
        case fwek71 => intro i1; rfl
        case hwek7 =>
        intro g8 Wwek7 hb hgwek7 h8
  
        have ge_g8 := Nat.le_trans hw.size hgwek7
        have ne_hb0_g8 : w.heap.size ≠ g8 := by omega
        have ne_hz_g8 : w.heap.size + 1 ≠ g8 := by omega
        have ne_h5_g8 : g5 ≠ g8 := by omega
        have ne_h6_g8 : g6 ≠ g8 := by omega
        have ne_h7_g8 : g7 ≠ g8 := by omega
        clear lt_hb0 lt_hz lt_h5 lt_h6 lt_h7
        replace hb0 := hb0.belowAll hb
        replace hz := hz.belowAll hb
        replace h5 := h5.belowAll hb
        replace h6 := h6.belowAll hb
        replace h7 := h7.belowAll hb
        replace hw := hw.trans (hb.mono hw.size)
        clear hb
        have hgot := setRow_heap _ (w.heap.size + 1) _ (RL ⟨(rootL (frU y) (frV y)), y, smL 1⟩).toArray _ _ hz
        have HGOT := Lib.hid hgot
        have HW := Lib.hid hw
        clear hgot hw
        go_wp2_with (first
          | (refine wpList_load_row rfl 30 (.tmp 8) rfl (g8) rfl 30 _ (0, 0) _ h8 Tryd.underlying30 rfl (nw_info _) ?_)
          | (refine wpList_load_row rfl 30 (.tmp 5) rfl (g5) rfl 30 _ (0, 0) _ h5 Tryd.underlying30 rfl (nw_info _) ?_)
          | (refine wpList_load_row rfl 30 (.tmp 6) rfl (g6) rfl 30 _ (0, 0) _ h6 Tryd.underlying30 rfl (nw_info _) ?_)
          | (refine wpList_build3 rfl 62 (.tmp 56) (.tmp 57) (.tmp 58) rfl (.agg (Nw (nu (rootL (frU y) (frV y)))).toArray) (.agg (Nw (nu y)).toArray) (.agg (Nw (nu (smL 1))).toArray) (.agg (RL ⟨(rootL (frU y) (frV y)), y, smL 1⟩).toArray) rfl rfl rfl (rl_mk (rootL (frU y) (frV y)) y (smL 1) _) ?_)
          | (refine wpList_store_row rfl 62 (.tmp 2) (.tmp 59) rfl (w.heap.size + 1) _ rfl rfl 62 _ hz (rl_info _) (RL_sz _ _) (RL_one _) ?_))
        refine bodyPost_ret (results_row_slot (by rfl) _ _ (w.heap.size + 1) _ _ _ _ (.bool true) (by rfl) HGOT.out Tryd.underlying62 rfl (rl_info _) (by rfl)) rfl ?_
        exact ⟨⟨_, by rw [HDEC.out], fun _ => by first | rfl | rw [if_pos hoth] | rw [if_neg hoth]⟩, below_setRow HW.out (by omega) _⟩
      · replace hok := (Bool.not_eq_true _).mp hok
        have HDEC := Lib.hid (show decOk N = false by unfold decOk; rw [hok]; rfl)
        have hc := byt_lt N 31
        have hset := By_set31 N
        have hcell := ((Row.new w (By N 32) 22).alloc (.cells #[.int .u32 0, .int .u32 0, .int .u32 0, .int .u32 0, .int .u32 0, .int .u32 0, .int .u32 0, .int .u32 0, .int .u32 0, .int .u32 0, .int .u32 0, .int .u32 0, .int .u32 0, .int .u32 0, .int .u32 0, .int .u32 0, .int .u32 0, .int .u32 0, .int .u32 0, .int .u32 0, .int .u32 0, .int .u32 0, .int .u32 0, .int .u32 0] 62)).cell (By_get N 32 (k := 31) (by decide))
        have hfree := ((Row.new w (By N 32) 22).alloc (.cells #[.int .u32 0, .int .u32 0, .int .u32 0, .int .u32 0, .int .u32 0, .int .u32 0, .int .u32 0, .int .u32 0, .int .u32 0, .int .u32 0, .int .u32 0, .int .u32 0, .int .u32 0, .int .u32 0, .int .u32 0, .int .u32 0, .int .u32 0, .int .u32 0, .int .u32 0, .int .u32 0, .int .u32 0, .int .u32 0, .int .u32 0, .int .u32 0] 62)).free 31
        have hge := ge_hi_false hoth
        have e31 : (((byt N 31 : Nat) : Int) % 128) = ((byt N 31 % 128 : Nat) : Int) := by omega
        have hb0 : Row ((w.alloc (.cells ((By N 32).set 31 (.int .u8 (((byt N 31 : Nat) : Int) % 128))).toArray 22)).alloc (.cells #[.int .u32 0, .int .u32 0, .int .u32 0, .int .u32 0, .int .u32 0, .int .u32 0, .int .u32 0, .int .u32 0, .int .u32 0, .int .u32 0, .int .u32 0, .int .u32 0, .int .u32 0, .int .u32 0, .int .u32 0, .int .u32 0, .int .u32 0, .int .u32 0, .int .u32 0, .int .u32 0, .int .u32 0, .int .u32 0, .int .u32 0, .int .u32 0] 62)) w.heap.size 22 (By (N % 57896044618658097711785492504343953926634992332820282019728792003956564819968) 32) := by
          rw [e31, hset]
          exact (Row.new w _ 22).alloc _
        have hz : Row ((w.alloc (.cells ((By N 32).set 31 (.int .u8 (((byt N 31 : Nat) : Int) % 128))).toArray 22)).alloc (.cells #[.int .u32 0, .int .u32 0, .int .u32 0, .int .u32 0, .int .u32 0, .int .u32 0, .int .u32 0, .int .u32 0, .int .u32 0, .int .u32 0, .int .u32 0, .int .u32 0, .int .u32 0, .int .u32 0, .int .u32 0, .int .u32 0, .int .u32 0, .int .u32 0, .int .u32 0, .int .u32 0, .int .u32 0, .int .u32 0, .int .u32 0, .int .u32 0] 62)) (w.heap.size + 1) 62 (RL zeR) := by
          rw [RL_zero]
          exact Row.new1 w _ _ _
        have hw := Below.alloc2 w (.cells ((By N 32).set 31 (.int .u8 (((byt N 31 : Nat) : Int) % 128))).toArray 22) (.cells #[.int .u32 0, .int .u32 0, .int .u32 0, .int .u32 0, .int .u32 0, .int .u32 0, .int .u32 0, .int .u32 0, .int .u32 0, .int .u32 0, .int .u32 0, .int .u32 0, .int .u32 0, .int .u32 0, .int .u32 0, .int .u32 0, .int .u32 0, .int .u32 0, .int .u32 0, .int .u32 0, .int .u32 0, .int .u32 0, .int .u32 0, .int .u32 0] 62)
        clear hset e31
        generalize N % 57896044618658097711785492504343953926634992332820282019728792003956564819968 = M at *
        generalize byt N 31 = c at *
        have hraw := fun wx => raw_ref M HMM.out wx
        have hless := fun wx => less_is (show M < W8 from HMM.out) pp_W8 hcan wx
        have hof := fun wx => ofr_nu M wx
        have hy := ofB_ok M
        generalize ofB M = y at *
        have HRAW := Lib.hid hraw
        have HLESS := Lib.hid hless
        have HOF := Lib.hid hof
        clear hraw hless hof
        go_enter Tryd.func43, Tryd.ntmps43
        go_wp2_with (first
          | (refine wpList_load_row rfl 22 (.tmp 1) rfl (w.heap.size) rfl 22 _ (0, 0) _ hb0 Tryd.underlying22 rfl (by_info _) ?_))
        refine (HRAW.out _).mono ?_
        rintro e Wbek1 ⟨rfl, hb⟩
        replace hb0 := hb0.belowAll hb
        replace hz := hz.belowAll hb
        replace hw := hw.trans (hb.mono hw.size)
        clear hb
        go_wp2_with fail
        refine (P_any _).mono ?_
        rintro e Wbek2 ⟨rfl, hb⟩
        replace hb0 := hb0.belowAll hb
        replace hz := hz.belowAll hb
        replace hw := hw.trans (hb.mono hw.size)
        clear hb
        go_wp2_with fail
        refine (HLESS.out _).mono ?_
        rintro e Wbek3 ⟨rfl, hb⟩
        replace hb0 := hb0.belowAll hb
        replace hz := hz.belowAll hb
        replace hw := hw.trans (hb.mono hw.size)
        clear hb
        have hr0 := fun wx => rootr_nu (frU_ok hy) (frV_ok hy) wx
        rw [hok] at hr0
        have HRT := Lib.hid hr0
        clear hr0 hok
        go_wp2_with (first
          | (refine wpList_load_row rfl 22 (.tmp 1) rfl (w.heap.size) rfl 22 _ (0, 0) _ hb0 Tryd.underlying22 rfl (by_info _) ?_))
        refine (HOF.out _).mono ?_
        rintro e Wbek4 ⟨rfl, hb⟩
        replace hb0 := hb0.belowAll hb
        replace hz := hz.belowAll hb
        replace hw := hw.trans (hb.mono hw.size)
        clear hb
        have lt_hb0 := hb0.lt
        have lt_hz := hz.lt
        have ne_hb0_bek4 : w.heap.size ≠ Wbek4.heap.size := by omega
        have ne_hz_bek4 : w.heap.size + 1 ≠ Wbek4.heap.size := by omega
        have new_bek4 := Row.new Wbek4 (Nw 0) 30
        replace hb0 := (hb0.alloc (.cells (Nw 0).toArray 30)).setRowOther (k := Wbek4.heap.size) ne_hb0_bek4 (Nw (nu y)).toArray
        replace hz := (hz.alloc (.cells (Nw 0).toArray 30)).setRowOther (k := Wbek4.heap.size) ne_hz_bek4 (Nw (nu y)).toArray
        have h5 := new_bek4.setRow (Nw (nu y))
        have ge_bek4 := hw.size
        replace hw := below_setRow (g := Wbek4.heap.size) (hw.alloc hw.size (.cells (Nw 0).toArray 30)) hw.size (Nw (nu y)).toArray
        have NEW := Lib.hid new_bek4
        clear new_bek4 lt_hb0 lt_hz
        go_wp2_with (first
          | (refine wpList_store_row rfl 30 (.tmp 5) (.tmp 24) rfl Wbek4.heap.size _ rfl rfl 30 _ NEW.out (nw_info _) (Nw_sz _ _) (Nw_one _) ?_))
        clear NEW
        rw [zero8]
        generalize (Wbek4.alloc (.cells (Nw 0).toArray 30)).setRow Wbek4.heap.size (Nw (nu y)).toArray = Vbek4 at *
        generalize Wbek4.heap.size = g5 at *
        refine (smallr_nu 1 (by decide) _).mono ?_
        rintro e Wbek5 ⟨rfl, hb⟩
        replace hb0 := hb0.belowAll hb
        replace hz := hz.belowAll hb
        replace h5 := h5.belowAll hb
        replace hw := hw.trans (hb.mono hw.size)
        clear hb
        have lt_hb0 := hb0.lt
        have lt_hz := hz.lt
        have lt_h5 := h5.lt
        have ne_hb0_bek5 : w.heap.size ≠ Wbek5.heap.size := by omega
        have ne_hz_bek5 : w.heap.size + 1 ≠ Wbek5.heap.size := by omega
        have ne_h5_bek5 : g5 ≠ Wbek5.heap.size := by omega
        have new_bek5 := Row.new Wbek5 (Nw 0) 30
        replace hb0 := (hb0.alloc (.cells (Nw 0).toArray 30)).setRowOther (k := Wbek5.heap.size) ne_hb0_bek5 (Nw (nu (smL 1))).toArray
        replace hz := (hz.alloc (.cells (Nw 0).toArray 30)).setRowOther (k := Wbek5.heap.size) ne_hz_bek5 (Nw (nu (smL 1))).toArray
        replace h5 := (h5.alloc (.cells (Nw 0).toArray 30)).setRowOther (k := Wbek5.heap.size) ne_h5_bek5 (Nw (nu (smL 1))).toArray
        have h6 := new_bek5.setRow (Nw (nu (smL 1)))
        have ge_bek5 := hw.size
        replace hw := below_setRow (g := Wbek5.heap.size) (hw.alloc hw.size (.cells (Nw 0).toArray 30)) hw.size (Nw (nu (smL 1))).toArray
        have NEW := Lib.hid new_bek5
        clear new_bek5 lt_hb0 lt_hz lt_h5
        go_wp2_with (first
          | (refine wpList_store_row rfl 30 (.tmp 6) (.tmp 25) rfl Wbek5.heap.size _ rfl rfl 30 _ NEW.out (nw_info _) (Nw_sz _ _) (Nw_one _) ?_)
          | (refine wpList_load_row rfl 30 (.tmp 5) rfl (g5) rfl 30 _ (0, 0) _ h5 Tryd.underlying30 rfl (nw_info _) ?_))
        clear NEW
        rw [zero8]
        generalize (Wbek5.alloc (.cells (Nw 0).toArray 30)).setRow Wbek5.heap.size (Nw (nu (smL 1))).toArray = Vbek5 at *
        generalize Wbek5.heap.size = g6 at *
        refine (mulr_nu y y _).mono ?_
        rintro e Wbek6 ⟨rfl, hb⟩
        replace hb0 := hb0.belowAll hb
        replace hz := hz.belowAll hb
        replace h5 := h5.belowAll hb
        replace h6 := h6.belowAll hb
        replace hw := hw.trans (hb.mono hw.size)
        clear hb
        have lt_hb0 := hb0.lt
        have lt_hz := hz.lt
        have lt_h5 := h5.lt
        have lt_h6 := h6.lt
        have ne_hb0_bek6 : w.heap.size ≠ Wbek6.heap.size := by omega
        have ne_hz_bek6 : w.heap.size + 1 ≠ Wbek6.heap.size := by omega
        have ne_h5_bek6 : g5 ≠ Wbek6.heap.size := by omega
        have ne_h6_bek6 : g6 ≠ Wbek6.heap.size := by omega
        have new_bek6 := Row.new Wbek6 (Nw 0) 30
        replace hb0 := (hb0.alloc (.cells (Nw 0).toArray 30)).setRowOther (k := Wbek6.heap.size) ne_hb0_bek6 (Nw (nu (mulL y y))).toArray
        replace hz := (hz.alloc (.cells (Nw 0).toArray 30)).setRowOther (k := Wbek6.heap.size) ne_hz_bek6 (Nw (nu (mulL y y))).toArray
        replace h5 := (h5.alloc (.cells (Nw 0).toArray 30)).setRowOther (k := Wbek6.heap.size) ne_h5_bek6 (Nw (nu (mulL y y))).toArray
        replace h6 := (h6.alloc (.cells (Nw 0).toArray 30)).setRowOther (k := Wbek6.heap.size) ne_h6_bek6 (Nw (nu (mulL y y))).toArray
        have h7 := new_bek6.setRow (Nw (nu (mulL y y)))
        have ge_bek6 := hw.size
        replace hw := below_setRow (g := Wbek6.heap.size) (hw.alloc hw.size (.cells (Nw 0).toArray 30)) hw.size (Nw (nu (mulL y y))).toArray
        have NEW := Lib.hid new_bek6
        clear new_bek6 lt_hb0 lt_hz lt_h5 lt_h6
        go_wp2_with (first
          | (refine wpList_store_row rfl 30 (.tmp 7) (.tmp 28) rfl Wbek6.heap.size _ rfl rfl 30 _ NEW.out (nw_info _) (Nw_sz _ _) (Nw_one _) ?_))
        clear NEW
        rw [zero8]
        generalize (Wbek6.alloc (.cells (Nw 0).toArray 30)).setRow Wbek6.heap.size (Nw (nu (mulL y y))).toArray = Vbek6 at *
        generalize Wbek6.heap.size = g7 at *
        have lt_hb0 := hb0.lt
        have lt_hz := hz.lt
        have lt_h5 := h5.lt
        have lt_h6 := h6.lt
        have lt_h7 := h7.lt
        refine wp_vars_one (aD := ?aDbek7) (B := Vbek6.heap.size) (S := fun w' => Below Vbek6.heap.size Vbek6 w') (k1 := 12) (s1 := 13) (T1 := 30) (L1 := 30) (z1 := Nw 0) (c1 := Nw (nu (rootL (frU y) (frV y)))) (x1 := .tmp 8) (y1 := .tmp 39)
          (vs := [(0, .agg (Nw (nu (mulL y y))).toArray), (1, .agg (Nw (nu (smL 1))).toArray), (2, .agg (Nw (nu (subL (mulL y y) (smL 1)))).toArray), (3, .agg (Nw (nu dL)).toArray), (4, .agg (Nw (nu (mulL y y))).toArray), (5, .agg (Nw (nu (mulL dL (mulL y y)))).toArray), (6, .agg (Nw (nu (smL 1))).toArray), (7, .agg (Nw (nu (addL (mulL dL (mulL y y)) (smL 1)))).toArray), (8, .tuple #[.agg (Nw (nu (rootL (frU y) (frV y)))).toArray, .bool false]), (9, .tuple #[.agg (Nw (nu (rootL (frU y) (frV y)))).toArray, .bool false]), (10, .agg (Nw (nu (rootL (frU y) (frV y)))).toArray), (11, .bool false), (14, .bool false)]) (by kernel_rfl) ((Below.refl _ _).drew) (fun _ _ h k => S_trans h k) (fun _ _ cs h hg => S_row h hg cs) (fun _ h => h.size) ?hDbek7 (.of rfl rfl rfl (fun w' => nw_alloc w')) ?hkbek7 rfl rfl (some 8) rfl rfl rfl ?ebek71 ?fbek71 (nw_info _) (Nw_sz _ _) (Nw_one _) ?hbek7
        case hDbek7 =>
          refine .step (some 30) rfl rfl (by kernel_rfl) (Gives.load_row 30 (.tmp 7) rfl (g7) rfl 30 _ (fun w' h => h7.belowAll h) Tryd.underlying30 rfl (nw_info _)) ?_
          simp only [Act.put, List.setIfInBounds_toArray, List.set_cons_zero, List.set_cons_succ]
          refine .step (some 31) rfl rfl (by kernel_rfl) (Gives.load_row 30 (.tmp 6) rfl (g6) rfl 30 _ (fun w' h => h6.belowAll h) Tryd.underlying30 rfl (nw_info _)) ?_
          simp only [Act.put, List.setIfInBounds_toArray, List.set_cons_zero, List.set_cons_succ]
          refine .step (some 32) rfl rfl (by kernel_rfl) (Gives.call (args := [.agg (Nw (nu (mulL y y))).toArray, .agg (Nw (nu (smL 1))).toArray]) rfl Tryd.func30 (by kernel_rfl) (by kernel_rfl) rfl (fun w' h => subr_nu (mulL y y) sm_ok1 w')) ?_
          simp only [Act.put, List.setIfInBounds_toArray, List.set_cons_zero, List.set_cons_succ]
          refine .step (some 33) rfl rfl (by kernel_rfl) (Gives.call (args := []) rfl Tryd.func52 (by kernel_rfl) (by kernel_rfl) rfl (fun w' h => d_ref w')) ?_
          simp only [Act.put, List.setIfInBounds_toArray, List.set_cons_zero, List.set_cons_succ]
          refine .step (some 34) rfl rfl (by kernel_rfl) (Gives.load_row 30 (.tmp 7) rfl (g7) rfl 30 _ (fun w' h => h7.belowAll h) Tryd.underlying30 rfl (nw_info _)) ?_
          simp only [Act.put, List.setIfInBounds_toArray, List.set_cons_zero, List.set_cons_succ]
          refine .step (some 35) rfl rfl (by kernel_rfl) (Gives.call (args := [.agg (Nw (nu dL)).toArray, .agg (Nw (nu (mulL y y))).toArray]) rfl Tryd.func32 (by kernel_rfl) (by kernel_rfl) rfl (fun w' h => mulr_nu dL (mulL y y) w')) ?_
          simp only [Act.put, List.setIfInBounds_toArray, List.set_cons_zero, List.set_cons_succ]
          refine .step (some 36) rfl rfl (by kernel_rfl) (Gives.load_row 30 (.tmp 6) rfl (g6) rfl 30 _ (fun w' h => h6.belowAll h) Tryd.underlying30 rfl (nw_info _)) ?_
          simp only [Act.put, List.setIfInBounds_toArray, List.set_cons_zero, List.set_cons_succ]
          refine .step (some 37) rfl rfl (by kernel_rfl) (Gives.call (args := [.agg (Nw (nu (mulL dL (mulL y y)))).toArray, .agg (Nw (nu (smL 1))).toArray]) rfl Tryd.func28 (by kernel_rfl) (by kernel_rfl) rfl (fun w' h => addr_nu (mulL dL (mulL y y)) (smL 1) w')) ?_
          simp only [Act.put, List.setIfInBounds_toArray, List.set_cons_zero, List.set_cons_succ]
          refine .step (some 38) rfl rfl (by kernel_rfl) (Gives.call (args := [.agg (Nw (nu (subL (mulL y y) (smL 1)))).toArray, .agg (Nw (nu (addL (mulL dL (mulL y y)) (smL 1)))).toArray]) rfl Tryd.func41 (by kernel_rfl) (by kernel_rfl) rfl (fun w' h => HRT.out w')) ?_
          simp only [Act.put, List.setIfInBounds_toArray, List.set_cons_zero, List.set_cons_succ]
          refine .step (some 29) rfl rfl (by kernel_rfl) (Gives.move (x := (.tmp 38)) rfl rfl) ?_
          simp only [Act.put, List.setIfInBounds_toArray, List.set_cons_zero, List.set_cons_succ]
          refine .step (some 39) rfl rfl (by kernel_rfl) (Gives.extract (.tmp 29) 0 rfl _ _ rfl (fun w' => tu_ext0 _ _ w')) ?_
          simp only [Act.put, List.setIfInBounds_toArray, List.set_cons_zero, List.set_cons_succ]
          refine .step (some 40) rfl rfl (by kernel_rfl) (Gives.extract (.tmp 29) 1 rfl _ _ rfl (fun w' => tu_ext1 _ _ w')) ?_
          simp only [Act.put, List.setIfInBounds_toArray, List.set_cons_zero, List.set_cons_succ]
          refine .step (some 9) rfl rfl (by kernel_rfl) (Gives.assign (x := (.tmp 40)) rfl rfl) ?_
          simp only [Act.put, List.setIfInBounds_toArray, List.set_cons_zero, List.set_cons_succ]
          exact .nil
        case hkbek7 => kernel_rfl
        case ebek71 => intro i1; rfl
        case fbek71 => intro i1; rfl
        case hbek7 =>
        intro g8 Wbek7 hb hgbek7 h8
  
        have ge_g8 := Nat.le_trans hw.size hgbek7
        have ne_hb0_g8 : w.heap.size ≠ g8 := by omega
        have ne_hz_g8 : w.heap.size + 1 ≠ g8 := by omega
        have ne_h5_g8 : g5 ≠ g8 := by omega
        have ne_h6_g8 : g6 ≠ g8 := by omega
        have ne_h7_g8 : g7 ≠ g8 := by omega
        clear lt_hb0 lt_hz lt_h5 lt_h6 lt_h7
        replace hb0 := hb0.belowAll hb
        replace hz := hz.belowAll hb
        replace h5 := h5.belowAll hb
        replace h6 := h6.belowAll hb
        replace h7 := h7.belowAll hb
        replace hw := hw.trans (hb.mono hw.size)
        clear hb
        go_wp2_with fail
        refine (zr_ref _).mono ?_
        rintro e Wbek8 ⟨rfl, hb⟩
        replace hb0 := hb0.belowAll hb
        replace hz := hz.belowAll hb
        replace h5 := h5.belowAll hb
        replace h6 := h6.belowAll hb
        replace h7 := h7.belowAll hb
        replace h8 := h8.belowAll hb
        replace hw := hw.trans (hb.mono hw.size)
        clear hb
        have hgot := setRow_heap _ (w.heap.size + 1) _ (RL ⟨zeL, smL 1, smL 1⟩).toArray _ _ hz
        have HGOT := Lib.hid hgot
        have HW := Lib.hid hw
        clear hgot hw
        go_wp2_with (first
          | (refine wpList_store_row rfl 62 (.tmp 2) (.tmp 51) rfl (w.heap.size + 1) _ rfl rfl 62 _ hz (rl_info _) (RL_sz _ _) (RL_one _) ?_))
        refine bodyPost_ret (results_row_slot (by rfl) _ _ (w.heap.size + 1) _ _ _ _ (.bool false) (by rfl) HGOT.out Tryd.underlying62 rfl (rl_info _) (by rfl)) rfl ?_
        exact ⟨⟨_, by rw [HDEC.out], fun h => absurd (HDEC.out.symm.trans h) (by decide)⟩, below_setRow HW.out (by omega) _⟩
    · replace hcan := (Bool.not_eq_true _).mp hcan
      have HDEC := Lib.hid (show decOk N = false by unfold decOk; rw [hcan]; cases rootOk (frU (ofB (N % 57896044618658097711785492504343953926634992332820282019728792003956564819968))) (frV (ofB (N % 57896044618658097711785492504343953926634992332820282019728792003956564819968))) <;> rfl)
      have hc := byt_lt N 31
      have hset := By_set31 N
      have hcell := ((Row.new w (By N 32) 22).alloc (.cells #[.int .u32 0, .int .u32 0, .int .u32 0, .int .u32 0, .int .u32 0, .int .u32 0, .int .u32 0, .int .u32 0, .int .u32 0, .int .u32 0, .int .u32 0, .int .u32 0, .int .u32 0, .int .u32 0, .int .u32 0, .int .u32 0, .int .u32 0, .int .u32 0, .int .u32 0, .int .u32 0, .int .u32 0, .int .u32 0, .int .u32 0, .int .u32 0] 62)).cell (By_get N 32 (k := 31) (by decide))
      have hfree := ((Row.new w (By N 32) 22).alloc (.cells #[.int .u32 0, .int .u32 0, .int .u32 0, .int .u32 0, .int .u32 0, .int .u32 0, .int .u32 0, .int .u32 0, .int .u32 0, .int .u32 0, .int .u32 0, .int .u32 0, .int .u32 0, .int .u32 0, .int .u32 0, .int .u32 0, .int .u32 0, .int .u32 0, .int .u32 0, .int .u32 0, .int .u32 0, .int .u32 0, .int .u32 0, .int .u32 0] 62)).free 31
      have hge := ge_hi_false hoth
      have e31 : (((byt N 31 : Nat) : Int) % 128) = ((byt N 31 % 128 : Nat) : Int) := by omega
      have hb0 : Row ((w.alloc (.cells ((By N 32).set 31 (.int .u8 (((byt N 31 : Nat) : Int) % 128))).toArray 22)).alloc (.cells #[.int .u32 0, .int .u32 0, .int .u32 0, .int .u32 0, .int .u32 0, .int .u32 0, .int .u32 0, .int .u32 0, .int .u32 0, .int .u32 0, .int .u32 0, .int .u32 0, .int .u32 0, .int .u32 0, .int .u32 0, .int .u32 0, .int .u32 0, .int .u32 0, .int .u32 0, .int .u32 0, .int .u32 0, .int .u32 0, .int .u32 0, .int .u32 0] 62)) w.heap.size 22 (By (N % 57896044618658097711785492504343953926634992332820282019728792003956564819968) 32) := by
        rw [e31, hset]
        exact (Row.new w _ 22).alloc _
      have hz : Row ((w.alloc (.cells ((By N 32).set 31 (.int .u8 (((byt N 31 : Nat) : Int) % 128))).toArray 22)).alloc (.cells #[.int .u32 0, .int .u32 0, .int .u32 0, .int .u32 0, .int .u32 0, .int .u32 0, .int .u32 0, .int .u32 0, .int .u32 0, .int .u32 0, .int .u32 0, .int .u32 0, .int .u32 0, .int .u32 0, .int .u32 0, .int .u32 0, .int .u32 0, .int .u32 0, .int .u32 0, .int .u32 0, .int .u32 0, .int .u32 0, .int .u32 0, .int .u32 0] 62)) (w.heap.size + 1) 62 (RL zeR) := by
        rw [RL_zero]
        exact Row.new1 w _ _ _
      have hw := Below.alloc2 w (.cells ((By N 32).set 31 (.int .u8 (((byt N 31 : Nat) : Int) % 128))).toArray 22) (.cells #[.int .u32 0, .int .u32 0, .int .u32 0, .int .u32 0, .int .u32 0, .int .u32 0, .int .u32 0, .int .u32 0, .int .u32 0, .int .u32 0, .int .u32 0, .int .u32 0, .int .u32 0, .int .u32 0, .int .u32 0, .int .u32 0, .int .u32 0, .int .u32 0, .int .u32 0, .int .u32 0, .int .u32 0, .int .u32 0, .int .u32 0, .int .u32 0] 62)
      clear hset e31
      generalize N % 57896044618658097711785492504343953926634992332820282019728792003956564819968 = M at *
      generalize byt N 31 = c at *
      have hraw := fun wx => raw_ref M HMM.out wx
      have hless := fun wx => less_is (show M < W8 from HMM.out) pp_W8 hcan wx
      have hof := fun wx => ofr_nu M wx
      have hy := ofB_ok M
      generalize ofB M = y at *
      have HRAW := Lib.hid hraw
      have HLESS := Lib.hid hless
      have HOF := Lib.hid hof
      clear hraw hless hof
      go_enter Tryd.func43, Tryd.ntmps43
      go_wp2_with (first
        | (refine wpList_load_row rfl 22 (.tmp 1) rfl (w.heap.size) rfl 22 _ (0, 0) _ hb0 Tryd.underlying22 rfl (by_info _) ?_))
      refine (HRAW.out _).mono ?_
      rintro e Waen1 ⟨rfl, hb⟩
      replace hb0 := hb0.belowAll hb
      replace hz := hz.belowAll hb
      replace hw := hw.trans (hb.mono hw.size)
      clear hb
      go_wp2_with fail
      refine (P_any _).mono ?_
      rintro e Waen2 ⟨rfl, hb⟩
      replace hb0 := hb0.belowAll hb
      replace hz := hz.belowAll hb
      replace hw := hw.trans (hb.mono hw.size)
      clear hb
      go_wp2_with fail
      refine (HLESS.out _).mono ?_
      rintro e Waen3 ⟨rfl, hb⟩
      replace hb0 := hb0.belowAll hb
      replace hz := hz.belowAll hb
      replace hw := hw.trans (hb.mono hw.size)
      clear hb
      go_wp2_with fail
      refine (zr_ref _).mono ?_
      rintro e Waen4 ⟨rfl, hb⟩
      replace hb0 := hb0.belowAll hb
      replace hz := hz.belowAll hb
      replace hw := hw.trans (hb.mono hw.size)
      clear hb
      have hgot := setRow_heap _ (w.heap.size + 1) _ (RL ⟨zeL, smL 1, smL 1⟩).toArray _ _ hz
      have HGOT := Lib.hid hgot
      have HW := Lib.hid hw
      clear hgot hw
      go_wp2_with (first
        | (refine wpList_store_row rfl 62 (.tmp 2) (.tmp 22) rfl (w.heap.size + 1) _ rfl rfl 62 _ hz (rl_info _) (RL_sz _ _) (RL_one _) ?_))
      refine bodyPost_ret (results_row_slot (by rfl) _ _ (w.heap.size + 1) _ _ _ _ (.bool false) (by rfl) HGOT.out Tryd.underlying62 rfl (rl_info _) (by rfl)) rfl ?_
      exact ⟨⟨_, by rw [HDEC.out], fun h => absurd (HDEC.out.symm.trans h) (by decide)⟩, below_setRow HW.out (by omega) _⟩
theorem dr_ref (N : Nat) (w : World) :
    Calls Tryd.prog 43 #[.agg (By N 32).toArray] w fun e w' => (∃ r : Rp, e = .returned (.tuple #[.agg (RL r).toArray, .bool (decOk N)])) ∧ Below w.heap.size w w' :=
  (drx_ref N w).mono fun _ _ h => ⟨⟨_, h.1.choose_spec.1⟩, h.2⟩

end Go.Proofs.YthpbipebpaeagaaDoor
