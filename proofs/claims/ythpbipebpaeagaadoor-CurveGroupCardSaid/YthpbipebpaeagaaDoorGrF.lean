/- The statement CurveGroup: the walk. -/
import Derived.Test.YthpbipebpaeagaaDoorRb
namespace Go.Proofs.YthpbipebpaeagaaDoor
set_option maxRecDepth 100000
set_option linter.unusedSimpArgs false
set_option linter.unusedVariables false
open Go.RowKit

theorem beq_dec {N M : Nat} (hN : N < 256 ^ 32) (hM : M < 256 ^ 32) {b : Bool} (h : decide (N = M) = b) (w : World) : (binOp .eql 22 (.agg (By N 32).toArray) (.agg (By M 32).toArray)).run Tryd.prog w = .ok (.bool b) w := by rw [beq_num hN hM, h]
theorem ng_x (x y : Fin pp) : x * y + y * -x = 0 := by grind
theorem ng_y {d x y : Fin pp} (h : y * y - x * x - 1 - d * (x * x) * (y * y) = 0) : y * y + x * -x = 1 * (1 - (0 - d * (x * x) * (y * y))) := by grind
theorem ng_t (d x y : Fin pp) : d * (x * -x) * (y * y) = 0 - d * (x * x) * (y * y) := by grind
theorem ng_0 (z : Fin pp) : 0 * z = 0 := Fin.zero_mul z
theorem ad_ng {P : A2} (h : On P) : adA P (ngA P) = O2 := by
  have ho := on_ng h
  have e1 : tt P (ngA P) = 0 - dF * (P.1 * P.1) * (P.2 * P.2) := ng_t dF P.1 P.2
  have h1 : (adA P (ngA P)).1 * (1 + tt P (ngA P)) = P.1 * P.2 + P.2 * -P.1 := ad_1 h ho
  have h2 : (adA P (ngA P)).2 * (1 - tt P (ngA P)) = P.2 * P.2 + P.1 * -P.1 := ad_2 h ho
  refine Prod.ext ?_ ?_
  · refine canc (cplus h ho) ?_
    rw [h1]
    exact (ng_x P.1 P.2).trans (ng_0 _).symm
  · refine canc (cminus h ho) ?_
    rw [h2, e1]
    exact ng_y h
theorem qN_2 : qN < 2 ^ 256 := by decide
theorem qN_lt : qN < 256 ^ 32 := by decide
theorem at5_any (N n : Nat) (a : Option Addr) (cap : Nat) (F : Nat → Prop) (i : Nat) (w : World) (h : i < n) (hn : n < 4611686018427387904) (hr : Rd w F a n (Tabs .i64 (byt N) n)) :
    Calls Tryd.prog 83 #[.slice a n cap, .int .i64 (i : Int)] w fun e w' => e = .returned (.int .i64 ((byt N i : Nat) : Int)) ∧ w' = w := by
  obtain ⟨ad, e, _, _, hC⟩ := hr.2 (by omega)
  have hc := hC i _ (Tabs_get .i64 (byt N) n h)
  subst e
  clear hC hr
  go_enter Tryd.func83, Tryd.ntmps83
  go_wp2_with fail
  go_ret
  exact ⟨rfl, rfl⟩
theorem q5_digits : Tabs .i64 (byt qN) 32 = [.int .i64 237, .int .i64 211, .int .i64 245, .int .i64 92, .int .i64 26, .int .i64 99, .int .i64 18, .int .i64 88, .int .i64 214, .int .i64 156, .int .i64 247, .int .i64 162, .int .i64 222, .int .i64 249, .int .i64 222, .int .i64 20, .int .i64 0, .int .i64 0, .int .i64 0, .int .i64 0, .int .i64 0, .int .i64 0, .int .i64 0, .int .i64 0, .int .i64 0, .int .i64 0, .int .i64 0, .int .i64 0, .int .i64 0, .int .i64 0, .int .i64 0, .int .i64 16] := by kernel_rfl
theorem q5_any (w : World) : Calls Tryd.prog 63 #[] w fun e w' => ∃ g : Nat, e = .returned (.slice (some ⟨g, 0, none⟩) 32 32) ∧ Rd w' (fun _ => True) (some ⟨g, 0, none⟩) 32 (Tabs .i64 (byt qN) 32) ∧ Below w.heap.size w w' := by
  go_enter Tryd.func63, Tryd.ntmps63
  go_wp2_with fail
  go_ret
  refine ⟨w.heap.size, rfl, ⟨by rw [q5_digits]; rfl, fun _ => ⟨_, rfl, trivial, by simp, fun j u hu => ?_⟩⟩, (Below.refl _ _).alloc (Nat.le_refl _) _⟩
  rw [q5_digits] at hu
  rw [Addr.add_mid]
  exact (Row.new w _ _).cell (by simpa using hu)
theorem Makes.call {P : Program} {S : World → Prop} {R : Nat → World → Prop} {val : Nat → Value} {o : Oper} {a : Act} {f : FuncId} {fn : Func} {xs : List Operand} {ts : Array TypeId} {args : List Value} (ho : o.op = .call { callee := .value (.func f), args := xs.toArray, argTypes := ts })
    (hf : P.funcs[f]? = some fn) (hn : (fn.name == "runtime.NumGoroutine") = false) (hb : fn.body.isNone = false) (hargs : xs.map a.eval = args)
    (hc : ∀ w, S w → Calls P f args.toArray w fun e w' => ∃ g, e = .returned (val g) ∧ R g w' ∧ Below w.heap.size w w') : Makes P S R val o a := by
  intro w hS K hK
  have hrun : (execOp a.eval o).run P w = .ok (.enter f args.toArray) w := by
    have hn' : ¬ fn.name = "runtime.NumGoroutine" := by simpa using hn
    have hb' : ¬ fn.body = none := fun e => by rw [e] at hb; cases hb
    unfold execOp
    simp [ho, resolve, Act.eval, Deferred.ofValue, invoke, callFunc, hf, hn', hb', ← hargs]
  unfold Oper.wp
  rw [hrun]
  refine Calls.mono (hc w hS) fun e w' he => ?_
  obtain ⟨g, rfl, hr, hbe⟩ := he
  exact hK g w' hbe hr

set_option maxHeartbeats 1600000 in
theorem rb5_any {N : Nat} (hN : N < 256 ^ 32) (a : Option Addr) (cap : Nat) (F : Nat → Prop) (w : World) (hr : Rd w F a 32 (Tabs .i64 (byt N) 32)) :
    Calls Tryd.prog 62 #[.slice a 32 cap] w fun e w' => e = .returned (.agg (By N 32).toArray) ∧ Below w.heap.size w w' := by
  have HR := Lib.hid hr
  have HN := Lib.hid hN
  clear hr hN
  go_enter Tryd.func62, Tryd.ntmps62
  go_wp2_with fail
  go_loopw [4] (fun i wr => ∃ k : Nat, k ≤ 32 ∧ i = .int .i64 k ∧ Row wr (w.heap.size + 1) 22 (Tab .u8 (byt N) 32 k) ∧ Row wr w.heap.size 22 (Tab .u8 (byt N) 32 0) ∧ Below w.heap.size w wr) (fun i _ => 32 - (intOf i).toNat)
  case atStart =>
    refine ⟨0, Nat.zero_le _, rfl, ?_, ?_, Below.alloc2 _ _ _⟩
    · rw [Tab_zero]
      exact Row.new1 w _ (List.replicate 32 (.int .u8 0)) _
    · rw [Tab_zero]
      exact (Row.new w (List.replicate 32 (.int .u8 0)) _).alloc _
  case round =>
    obtain ⟨k, hkn, rfl, hrow, hres, hbe⟩ := hrel
    by_cases hlt : k < 32
    · have hat := at5_any N 32 a cap F k wr hlt (by omega) (HR.out.belowAll hbe)
      have hfree := hrow.free k
      have hold := hrow.cell (Tab_get .u8 (byt N) 32 k hlt)
      have hset := hrow.set k (.int .u8 ((byt N k : Nat) : Int))
      rw [By_set N 32 hlt] at hset
      have hres2 := hres.setCell (p := ⟨w.heap.size + 1, k, none⟩) (by show _ ≠ w.heap.size + 1; omega) (.int .u8 ((byt N k : Nat) : Int))
      have hb2 := hbe.setCell (p := ⟨w.heap.size + 1, k, none⟩) (by simp) (.int .u8 ((byt N k : Nat) : Int))
      have hb255 := byt_lt N k
      generalize byt N k = y at *
      have hwy : IntKind.u8.wrap (y : Int) = (y : Int) := by rw [IntKind.wrap_u8]; omega
      have HAT := Lib.hid hat
      have HSET := Lib.hid hset
      have HRES2 := Lib.hid hres2
      have HB2 := Lib.hid hb2
      clear hrow hres hbe hset hres2 hb2 hat
      go_wp2_with fail
      refine HAT.out.mono ?_
      rintro e w' ⟨rfl, rfl⟩
      go_wp2_with fail
      go_roundw
      case rel => exact ⟨k + 1, by omega, by go_num, HSET.out, HRES2.out, HB2.out⟩
      case measure => simp [intOf] <;> omega
    · obtain rfl : k = 32 := by omega
      rw [Tab_done] at hrow
      rw [Tab_zero] at hres
      have hS := by_info N
      have hO : (List.replicate 32 (Value.int .u8 0)).toArray.size = (By N 32).toArray.size := by rw [List.size_toArray, List.size_toArray, By_length, List.length_replicate]
      have hrow2 : Row wr (w.heap.size + 1) 22 (By N 32) := hrow
      have HROW := Lib.hid hrow2
      have HRES := Lib.hid hres
      have HBE := Lib.hid hbe
      have HS4 := Lib.hid hS
      have HO4 := Lib.hid hO
      clear hrow hrow2 hres hbe hS hO
      go_wp2_with (first
        | (refine wpList_load_row rfl 22 (.tmp 3) rfl (w.heap.size + 1) rfl 22 _ (0, 0) _ HROW.out Tryd.underlying22 rfl HS4.out ?_)
        | (refine wpList_store_row rfl 22 (.tmp 2) (.tmp 15) rfl w.heap.size _ rfl rfl 22 _ HRES.out HS4.out HO4.out (By_one _ _) ?_))
      have hgot := setRow_heap wr w.heap.size _ (By N 32).toArray _ _ HRES.out
      refine bodyPost_ret (results_cell_row (by rfl) _ _ w.heap.size _ _ _ _ (by rfl) hgot Tryd.underlying22 rfl HS4.out) rfl ?_
      exact ⟨rfl, below_setRow HBE.out (by omega) _⟩

set_option maxHeartbeats 12800000 in
theorem group_law (A B C : Nat) (hA : A < 256 ^ 32) (hB : B < 256 ^ 32) (hC : C < 256 ^ 32) (w : World) (hq : Gc w) :
    Calls Tryd.prog 13 #[.agg (By A 32).toArray, .agg (By B 32).toArray, .agg (By C 32).toArray] w fun e w' => e = .returned (.bool true) ∧ Below w.heap.size w w' := by
  have hP : (muP baP A).ok := muP_ok baP_ok A
  have hQ : (muP baP B).ok := muP_ok baP_ok B
  have hR : (muP baP C).ok := muP_ok baP_ok C
  have hA2 : A < 2 ^ 256 := Nat.lt_of_lt_of_eq hA (by decide)
  have hB2 : B < 2 ^ 256 := Nat.lt_of_lt_of_eq hB (by decide)
  have hC2 : C < 2 ^ 256 := Nat.lt_of_lt_of_eq hC (by decide)
  have iP : Is (muP baP A) (sm A bA) := is_mu baP_ok hA2 is_ba
  have iQ : Is (muP baP B) (sm B bA) := is_mu baP_ok hB2 is_ba
  have iR : Is (muP baP C) (sm C bA) := is_mu baP_ok hC2 is_ba
  have s7 : sameB (muP (muP baP B) A) (muP (muP baP A) B) = true := by
    rw [is_same (is_mu hQ hA2 iQ) (is_mu hP hB2 iP), ← sm_mul on_bA, ← sm_mul on_bA, Nat.mul_comm]
    exact decide_eq_true rfl
  have s8 : sameB (muP baP qN) ze1 = true := by
    rw [is_same (is_mu baP_ok qN_2 is_ba) is_ze, sm_q]
    exact decide_eq_true rfl
  have m1 := fun wx hq => mu_any baP_ok A wx hq
  have m2 := fun wx hq => mu_any baP_ok B wx hq
  have m3 := fun wx hq => mu_any baP_ok C wx hq
  generalize sm A bA = PA at *
  generalize sm B bA = PB at *
  generalize sm C bA = PC at *
  generalize muP baP A = P at *
  generalize muP baP B = Q at *
  generalize muP baP C = R at *
  have s1 : sameB (adP P Q) (adP Q P) = true := by rw [is_same (is_ad hP hQ iP iQ) (is_ad hQ hP iQ iP), ad_comm]; exact decide_eq_true rfl
  have s2 : sameB (adP (adP P Q) R) (adP P (adP Q R)) = true := by
    rw [is_same (is_ad (adP_ok hP hQ) hR (is_ad hP hQ iP iQ) iR) (is_ad hP (adP_ok hQ hR) iP (is_ad hQ hR iQ iR)), ad_assoc iP.on iQ.on iR.on]
    exact decide_eq_true rfl
  have s3 : sameB (adP P ze1) P = true := by rw [is_same (is_ad hP ze1_ok iP is_ze) iP, ad_zero]; exact decide_eq_true rfl
  have s4 : sameB (adP P (ngP P)) ze1 = true := by rw [is_same (is_ad hP (ngP_ok hP) iP (is_ng hP iP)) is_ze, ad_ng iP.on]; exact decide_eq_true rfl
  have s5 : sameB (adP P P) (doP P) = true := by rw [is_same (is_ad hP hP iP iP) (is_do hP iP)]; exact decide_eq_true rfl
  obtain ⟨b, s6⟩ : ∃ b, sameB P Q = b := ⟨_, rfl⟩
  have s0 : decide (ptN P = ptN Q) = b := by
    rw [← s6, is_same iP iQ, is_told iP, is_told iQ]
    by_cases e : PA = PB
    · rw [decide_eq_true e, decide_eq_true (congrArg told e)]
    · rw [decide_eq_false e, decide_eq_false (fun h => e (told_inj iP.on iQ.on h))]
  have s9 := fun wx => beq_dec (by rw [is_told iP]; exact told_lt PA) (by rw [is_told iQ]; exact told_lt PB) s0 wx
  have M1 := Lib.hid m1
  have M2 := Lib.hid m2
  have M3 := Lib.hid m3
  have S1 := Lib.hid s1
  have S2 := Lib.hid s2
  have S3 := Lib.hid s3
  have S4 := Lib.hid s4
  have S5 := Lib.hid s5
  have S6 := Lib.hid s6
  have S7 := Lib.hid s7
  have S8 := Lib.hid s8
  have S9 := Lib.hid s9
  have hb0 := ((Row.new w (By A 32) 22).alloc (.cells (By B 32).toArray 22)).alloc (.cells (By C 32).toArray 22)
  have hb1 := (Row.new1 w (.cells (By A 32).toArray 22) (By B 32) 22).alloc (.cells (By C 32).toArray 22)
  have hb2 := Row.new2 w (.cells (By A 32).toArray 22) (.cells (By B 32).toArray 22) (By C 32) 22
  have hw := Below.alloc3 w (.cells (By A 32).toArray 22) (.cells (By B 32).toArray 22) (.cells (By C 32).toArray 22)
  clear m1 m2 m3 s1 s2 s3 s4 s5 s6 s7 s8 s9 s0 hA hB hC hA2 hB2 hC2 iP iQ iR
  go_enter Tryd.func13, Tryd.ntmps13
  go_wp2_with fail
  refine (ba_any _ (hq.belowAll hw)).mono ?_
  rintro e W1 ⟨rfl, hb⟩
  replace hb0 := hb0.belowAll hb
  replace hb1 := hb1.belowAll hb
  replace hb2 := hb2.belowAll hb
  replace hw := hw.trans (hb.mono hw.size)
  clear hb
  have l_hb0 := hb0.lt
  have l_hb1 := hb1.lt
  have l_hb2 := hb2.lt
  have e_ := Row.new W1 (PL zeP) 58
  have h7 := e_.setRow (PL baP)
  replace hb0 := (hb0.alloc (.cells (PL zeP).toArray 58)).setRowOther (k := W1.heap.size) (by omega) (PL baP).toArray
  replace hb1 := (hb1.alloc (.cells (PL zeP).toArray 58)).setRowOther (k := W1.heap.size) (by omega) (PL baP).toArray
  replace hb2 := (hb2.alloc (.cells (PL zeP).toArray 58)).setRowOther (k := W1.heap.size) (by omega) (PL baP).toArray
  have hsz := hw.size
  replace hw := below_setRow (g := W1.heap.size) (hw.alloc hw.size (.cells (PL zeP).toArray 58)) hw.size (PL baP).toArray
  have E_ := Lib.hid e_
  clear e_ hsz l_hb0 l_hb1 l_hb2
  go_wp2_with (first
      | (refine wpList_store_row rfl 58 (.tmp 7) (.tmp 11) rfl W1.heap.size _ rfl rfl 58 _ E_.out (pl_info _) (PL_sz _ _) (PL_one _) ?_))
  clear E_ 
  rw [z20]
  generalize (W1.alloc (.cells (PL zeP).toArray 58)).setRow W1.heap.size (PL baP).toArray = V1 at *
  generalize W1.heap.size = g7 at *
  have s1 := S1.out
  have s2 := S2.out
  have s3 := S3.out
  have s4 := S4.out
  have s5 := S5.out
  have s6 := S6.out
  have s7 := S7.out
  have s8 := S8.out
  have s9 := S9.out
  clear S1 S2 S3 S4 S5 S6 S7 S8 S9
  have lt_hb0 := hb0.lt
  have lt_hb1 := hb1.lt
  have lt_hb2 := hb2.lt
  have lt_h7 := h7.lt
  refine wp_vars_three (aD := ?aDq1) (B := V1.heap.size) (S := fun w' => Below V1.heap.size V1 w') (k1 := 9) (s1 := 12) (T1 := 58) (L1 := 58) (z1 := PL zeP) (c1 := PL P) (x1 := .tmp 8) (y1 := .tmp 14) (k2 := 10) (s2 := 13) (T2 := 58) (L2 := 58) (z2 := PL zeP) (c2 := PL Q) (x2 := .tmp 9) (y2 := .tmp 17) (k3 := 11) (s3 := 14) (T3 := 58) (L3 := 58) (z3 := PL zeP) (c3 := PL R) (x3 := .tmp 10) (y3 := .tmp 20)
    (vs := [(0, .agg (PL baP).toArray), (1, .agg (By A 32).toArray), (2, .agg (PL P).toArray), (3, .agg (PL baP).toArray), (4, .agg (By B 32).toArray), (5, .agg (PL Q).toArray), (6, .agg (PL baP).toArray), (7, .agg (By C 32).toArray), (8, .agg (PL R).toArray)]) (by kernel_rfl) ((Below.refl _ _).drew) (fun _ _ h k => S_trans h k) (fun _ _ cs h hg => S_row h hg cs) (fun _ h => h.size) ?hDq1 (.of rfl rfl rfl (fun w' => pl_alloc w')) (.of rfl rfl rfl (fun w' => pl_alloc w')) (.of rfl rfl rfl (fun w' => pl_alloc w')) ?hkq1 (by decide) (by decide) (by decide) rfl rfl rfl rfl rfl rfl (some 8) (some 9) (some 10) rfl rfl rfl rfl rfl rfl rfl rfl rfl ?eq11 ?fq11 ?eq12 ?fq12 ?eq13 ?fq13 (pl_info _) (PL_sz _ _) (PL_one _) (pl_info _) (PL_sz _ _) (PL_one _) (pl_info _) (PL_sz _ _) (PL_one _) ?hq1
  case hDq1 =>
    refine .step (some 12) rfl rfl (by kernel_rfl) (Gives.load_row 58 (.tmp 7) rfl (g7) rfl 58 _ (fun w' h => h7.belowAll h) Tryd.underlying58 rfl (pl_info _)) ?_
    simp only [Act.put, List.setIfInBounds_toArray, List.set_cons_zero, List.set_cons_succ]
    refine .step (some 13) rfl rfl (by kernel_rfl) (Gives.load_row 22 (.tmp 3) rfl (w.heap.size) rfl 22 _ (fun w' h => hb0.belowAll h) Tryd.underlying22 rfl (by_info _)) ?_
    simp only [Act.put, List.setIfInBounds_toArray, List.set_cons_zero, List.set_cons_succ]
    refine .step (some 14) rfl rfl (by kernel_rfl) (Gives.call (args := [.agg (PL baP).toArray, .agg (By A 32).toArray]) rfl Tryd.func56 (by kernel_rfl) (by kernel_rfl) rfl (fun w' h => M1.out w' ((hq.belowAll hw).belowAll h))) ?_
    simp only [Act.put, List.setIfInBounds_toArray, List.set_cons_zero, List.set_cons_succ]
    refine .step (some 15) rfl rfl (by kernel_rfl) (Gives.load_row 58 (.tmp 7) rfl (g7) rfl 58 _ (fun w' h => h7.belowAll h) Tryd.underlying58 rfl (pl_info _)) ?_
    simp only [Act.put, List.setIfInBounds_toArray, List.set_cons_zero, List.set_cons_succ]
    refine .step (some 16) rfl rfl (by kernel_rfl) (Gives.load_row 22 (.tmp 4) rfl (w.heap.size + 1) rfl 22 _ (fun w' h => hb1.belowAll h) Tryd.underlying22 rfl (by_info _)) ?_
    simp only [Act.put, List.setIfInBounds_toArray, List.set_cons_zero, List.set_cons_succ]
    refine .step (some 17) rfl rfl (by kernel_rfl) (Gives.call (args := [.agg (PL baP).toArray, .agg (By B 32).toArray]) rfl Tryd.func56 (by kernel_rfl) (by kernel_rfl) rfl (fun w' h => M2.out w' ((hq.belowAll hw).belowAll h))) ?_
    simp only [Act.put, List.setIfInBounds_toArray, List.set_cons_zero, List.set_cons_succ]
    refine .step (some 18) rfl rfl (by kernel_rfl) (Gives.load_row 58 (.tmp 7) rfl (g7) rfl 58 _ (fun w' h => h7.belowAll h) Tryd.underlying58 rfl (pl_info _)) ?_
    simp only [Act.put, List.setIfInBounds_toArray, List.set_cons_zero, List.set_cons_succ]
    refine .step (some 19) rfl rfl (by kernel_rfl) (Gives.load_row 22 (.tmp 5) rfl (w.heap.size + 1 + 1) rfl 22 _ (fun w' h => hb2.belowAll h) Tryd.underlying22 rfl (by_info _)) ?_
    simp only [Act.put, List.setIfInBounds_toArray, List.set_cons_zero, List.set_cons_succ]
    refine .step (some 20) rfl rfl (by kernel_rfl) (Gives.call (args := [.agg (PL baP).toArray, .agg (By C 32).toArray]) rfl Tryd.func56 (by kernel_rfl) (by kernel_rfl) rfl (fun w' h => M3.out w' ((hq.belowAll hw).belowAll h))) ?_
    simp only [Act.put, List.setIfInBounds_toArray, List.set_cons_zero, List.set_cons_succ]
    exact .nil
  case hkq1 => kernel_rfl
  case eq11 => intro i1 i2 i3; rfl
  case fq11 => intro i1 i2 i3; rfl
  case eq12 => intro i1 i2 i3; rfl
  case fq12 => intro i1 i2 i3; rfl
  case eq13 => intro i1 i2 i3; rfl
  case fq13 => intro i1 i2 i3; rfl
  case hq1 =>
  intro g8 g9 g10 Wq1 hb hgq10 hgq11 hgq12 hnq101 hnq102 hnq112 h8 h9 h10
  simp only [Act.put, List.setIfInBounds_toArray, List.set_cons_zero, List.set_cons_succ]
  have ge_g8 := Nat.le_trans hw.size hgq10
  have ne_hb0_g8 : w.heap.size ≠ g8 := by omega
  have ne_hb1_g8 : w.heap.size + 1 ≠ g8 := by omega
  have ne_hb2_g8 : w.heap.size + 1 + 1 ≠ g8 := by omega
  have ne_h7_g8 : g7 ≠ g8 := by omega
  have ge_g9 := Nat.le_trans hw.size hgq11
  have ne_hb0_g9 : w.heap.size ≠ g9 := by omega
  have ne_hb1_g9 : w.heap.size + 1 ≠ g9 := by omega
  have ne_hb2_g9 : w.heap.size + 1 + 1 ≠ g9 := by omega
  have ne_h7_g9 : g7 ≠ g9 := by omega
  have ge_g10 := Nat.le_trans hw.size hgq12
  have ne_hb0_g10 : w.heap.size ≠ g10 := by omega
  have ne_hb1_g10 : w.heap.size + 1 ≠ g10 := by omega
  have ne_hb2_g10 : w.heap.size + 1 + 1 ≠ g10 := by omega
  have ne_h7_g10 : g7 ≠ g10 := by omega
  clear lt_hb0 lt_hb1 lt_hb2 lt_h7
  replace hb0 := hb0.belowAll hb
  replace hb1 := hb1.belowAll hb
  replace hb2 := hb2.belowAll hb
  replace h7 := h7.belowAll hb
  replace hw := hw.trans (hb.mono hw.size)
  clear hb
  go_wp2_with fail
  refine wp_flat_none (aD := ?aDq2) (S := fun w' => Below Wq1.heap.size Wq1 w')
    (vs := [(0, .agg (PL P).toArray), (1, .agg (PL Q).toArray), (2, .agg (PL (adP P Q)).toArray), (3, .agg (PL Q).toArray), (4, .agg (PL P).toArray), (5, .agg (PL (adP Q P)).toArray), (6, .bool true), (7, .bool false), (8, .bool false), (9, .agg (PL P).toArray), (10, .agg (PL Q).toArray), (11, .agg (PL (adP P Q)).toArray), (12, .agg (PL R).toArray), (13, .agg (PL (adP (adP P Q) R)).toArray), (14, .agg (PL P).toArray), (15, .agg (PL Q).toArray), (16, .agg (PL R).toArray), (17, .agg (PL (adP Q R)).toArray), (18, .agg (PL (adP P (adP Q R))).toArray), (19, .bool true), (20, .bool false), (21, .bool false), (22, .bool false), (23, .agg (PL P).toArray), (24, .agg (PL ze1).toArray), (25, .agg (PL (adP P ze1)).toArray), (26, .agg (PL P).toArray), (27, .bool true), (28, .bool false), (29, .bool false), (30, .bool false), (31, .agg (PL P).toArray), (32, .agg (PL P).toArray), (33, .agg (PL (ngP P)).toArray), (34, .agg (PL (adP P (ngP P))).toArray), (35, .agg (PL ze1).toArray), (36, .bool true), (37, .bool false), (38, .bool false), (39, .bool false), (40, .agg (PL P).toArray), (41, .agg (PL P).toArray), (42, .agg (PL (adP P P)).toArray), (43, .agg (PL P).toArray), (44, .agg (PL (doP P)).toArray), (45, .bool true), (46, .bool false), (47, .bool false)]) (by kernel_rfl) ((Below.refl _ _).drew) (fun _ _ h k => S_trans h k) ?hDq2 ?hkq2 ?hq2
  case hDq2 =>
    refine .step (some 21) rfl rfl (by kernel_rfl) (Gives.load_row 58 (.tmp 8) rfl (g8) rfl 58 _ (fun w' h => h8.belowAll h) Tryd.underlying58 rfl (pl_info _)) ?_
    simp only [Act.put, List.setIfInBounds_toArray, List.set_cons_zero, List.set_cons_succ]
    refine .step (some 22) rfl rfl (by kernel_rfl) (Gives.load_row 58 (.tmp 9) rfl (g9) rfl 58 _ (fun w' h => h9.belowAll h) Tryd.underlying58 rfl (pl_info _)) ?_
    simp only [Act.put, List.setIfInBounds_toArray, List.set_cons_zero, List.set_cons_succ]
    refine .step (some 23) rfl rfl (by kernel_rfl) (Gives.call (args := [.agg (PL P).toArray, .agg (PL Q).toArray]) rfl Tryd.func53 (by kernel_rfl) (by kernel_rfl) rfl (fun w' h => ad_any hP hQ w' ((hq.belowAll hw).belowAll h))) ?_
    simp only [Act.put, List.setIfInBounds_toArray, List.set_cons_zero, List.set_cons_succ]
    refine .step (some 24) rfl rfl (by kernel_rfl) (Gives.load_row 58 (.tmp 9) rfl (g9) rfl 58 _ (fun w' h => h9.belowAll h) Tryd.underlying58 rfl (pl_info _)) ?_
    simp only [Act.put, List.setIfInBounds_toArray, List.set_cons_zero, List.set_cons_succ]
    refine .step (some 25) rfl rfl (by kernel_rfl) (Gives.load_row 58 (.tmp 8) rfl (g8) rfl 58 _ (fun w' h => h8.belowAll h) Tryd.underlying58 rfl (pl_info _)) ?_
    simp only [Act.put, List.setIfInBounds_toArray, List.set_cons_zero, List.set_cons_succ]
    refine .step (some 26) rfl rfl (by kernel_rfl) (Gives.call (args := [.agg (PL Q).toArray, .agg (PL P).toArray]) rfl Tryd.func53 (by kernel_rfl) (by kernel_rfl) rfl (fun w' h => ad_any hQ hP w' ((hq.belowAll hw).belowAll h))) ?_
    simp only [Act.put, List.setIfInBounds_toArray, List.set_cons_zero, List.set_cons_succ]
    refine .step (some 27) rfl rfl (by kernel_rfl) (Gives.call (args := [.agg (PL (adP P Q)).toArray, .agg (PL (adP Q P)).toArray]) rfl Tryd.func44 (by kernel_rfl) (by kernel_rfl) rfl (fun w' h => sa_is (adP_ok hP hQ) (adP_ok hQ hP) s1 w' ((hq.belowAll hw).belowAll h))) ?_
    simp only [Act.put, List.setIfInBounds_toArray, List.set_cons_zero, List.set_cons_succ]
    refine .step (some 28) rfl rfl (by kernel_rfl) (Gives.unop .not 4 (.tmp 27) rfl (.bool true) (.bool false) rfl (fun w' => rfl)) ?_
    simp only [Act.put, List.setIfInBounds_toArray, List.set_cons_zero, List.set_cons_succ]
    refine .step (some 29) rfl rfl (by kernel_rfl) (Gives.move (x := (.tmp 28)) rfl rfl) ?_
    simp only [Act.put, List.setIfInBounds_toArray, List.set_cons_zero, List.set_cons_succ]
    refine .step (some 30) rfl rfl (by kernel_rfl) (Gives.load_row 58 (.tmp 8) rfl (g8) rfl 58 _ (fun w' h => h8.belowAll h) Tryd.underlying58 rfl (pl_info _)) ?_
    simp only [Act.put, List.setIfInBounds_toArray, List.set_cons_zero, List.set_cons_succ]
    refine .step (some 31) rfl rfl (by kernel_rfl) (Gives.load_row 58 (.tmp 9) rfl (g9) rfl 58 _ (fun w' h => h9.belowAll h) Tryd.underlying58 rfl (pl_info _)) ?_
    simp only [Act.put, List.setIfInBounds_toArray, List.set_cons_zero, List.set_cons_succ]
    refine .step (some 32) rfl rfl (by kernel_rfl) (Gives.call (args := [.agg (PL P).toArray, .agg (PL Q).toArray]) rfl Tryd.func53 (by kernel_rfl) (by kernel_rfl) rfl (fun w' h => ad_any hP hQ w' ((hq.belowAll hw).belowAll h))) ?_
    simp only [Act.put, List.setIfInBounds_toArray, List.set_cons_zero, List.set_cons_succ]
    refine .step (some 33) rfl rfl (by kernel_rfl) (Gives.load_row 58 (.tmp 10) rfl (g10) rfl 58 _ (fun w' h => h10.belowAll h) Tryd.underlying58 rfl (pl_info _)) ?_
    simp only [Act.put, List.setIfInBounds_toArray, List.set_cons_zero, List.set_cons_succ]
    refine .step (some 34) rfl rfl (by kernel_rfl) (Gives.call (args := [.agg (PL (adP P Q)).toArray, .agg (PL R).toArray]) rfl Tryd.func53 (by kernel_rfl) (by kernel_rfl) rfl (fun w' h => ad_any (adP_ok hP hQ) hR w' ((hq.belowAll hw).belowAll h))) ?_
    simp only [Act.put, List.setIfInBounds_toArray, List.set_cons_zero, List.set_cons_succ]
    refine .step (some 35) rfl rfl (by kernel_rfl) (Gives.load_row 58 (.tmp 8) rfl (g8) rfl 58 _ (fun w' h => h8.belowAll h) Tryd.underlying58 rfl (pl_info _)) ?_
    simp only [Act.put, List.setIfInBounds_toArray, List.set_cons_zero, List.set_cons_succ]
    refine .step (some 36) rfl rfl (by kernel_rfl) (Gives.load_row 58 (.tmp 9) rfl (g9) rfl 58 _ (fun w' h => h9.belowAll h) Tryd.underlying58 rfl (pl_info _)) ?_
    simp only [Act.put, List.setIfInBounds_toArray, List.set_cons_zero, List.set_cons_succ]
    refine .step (some 37) rfl rfl (by kernel_rfl) (Gives.load_row 58 (.tmp 10) rfl (g10) rfl 58 _ (fun w' h => h10.belowAll h) Tryd.underlying58 rfl (pl_info _)) ?_
    simp only [Act.put, List.setIfInBounds_toArray, List.set_cons_zero, List.set_cons_succ]
    refine .step (some 38) rfl rfl (by kernel_rfl) (Gives.call (args := [.agg (PL Q).toArray, .agg (PL R).toArray]) rfl Tryd.func53 (by kernel_rfl) (by kernel_rfl) rfl (fun w' h => ad_any hQ hR w' ((hq.belowAll hw).belowAll h))) ?_
    simp only [Act.put, List.setIfInBounds_toArray, List.set_cons_zero, List.set_cons_succ]
    refine .step (some 39) rfl rfl (by kernel_rfl) (Gives.call (args := [.agg (PL P).toArray, .agg (PL (adP Q R)).toArray]) rfl Tryd.func53 (by kernel_rfl) (by kernel_rfl) rfl (fun w' h => ad_any hP (adP_ok hQ hR) w' ((hq.belowAll hw).belowAll h))) ?_
    simp only [Act.put, List.setIfInBounds_toArray, List.set_cons_zero, List.set_cons_succ]
    refine .step (some 40) rfl rfl (by kernel_rfl) (Gives.call (args := [.agg (PL (adP (adP P Q) R)).toArray, .agg (PL (adP P (adP Q R))).toArray]) rfl Tryd.func44 (by kernel_rfl) (by kernel_rfl) rfl (fun w' h => sa_is (adP_ok (adP_ok hP hQ) hR) (adP_ok hP (adP_ok hQ hR)) s2 w' ((hq.belowAll hw).belowAll h))) ?_
    simp only [Act.put, List.setIfInBounds_toArray, List.set_cons_zero, List.set_cons_succ]
    refine .step (some 41) rfl rfl (by kernel_rfl) (Gives.unop .not 4 (.tmp 40) rfl (.bool true) (.bool false) rfl (fun w' => rfl)) ?_
    simp only [Act.put, List.setIfInBounds_toArray, List.set_cons_zero, List.set_cons_succ]
    refine .step (some 42) rfl rfl (by kernel_rfl) (Gives.pick (.tmp 29) (.const (.bool true)) (.tmp 41) rfl false (.bool false) rfl rfl) ?_
    simp only [Act.put, List.setIfInBounds_toArray, List.set_cons_zero, List.set_cons_succ]
    refine .step (some 43) rfl rfl (by kernel_rfl) (Gives.move (x := (.tmp 42)) rfl rfl) ?_
    simp only [Act.put, List.setIfInBounds_toArray, List.set_cons_zero, List.set_cons_succ]
    refine .step (some 44) rfl rfl (by kernel_rfl) (Gives.load_row 58 (.tmp 8) rfl (g8) rfl 58 _ (fun w' h => h8.belowAll h) Tryd.underlying58 rfl (pl_info _)) ?_
    simp only [Act.put, List.setIfInBounds_toArray, List.set_cons_zero, List.set_cons_succ]
    refine .step (some 45) rfl rfl (by kernel_rfl) (Gives.call (args := []) rfl Tryd.func45 (by kernel_rfl) (by kernel_rfl) rfl (fun w' h => ze_any w' ((hq.belowAll hw).belowAll h))) ?_
    simp only [Act.put, List.setIfInBounds_toArray, List.set_cons_zero, List.set_cons_succ]
    refine .step (some 46) rfl rfl (by kernel_rfl) (Gives.call (args := [.agg (PL P).toArray, .agg (PL ze1).toArray]) rfl Tryd.func53 (by kernel_rfl) (by kernel_rfl) rfl (fun w' h => ad_any hP ze1_ok w' ((hq.belowAll hw).belowAll h))) ?_
    simp only [Act.put, List.setIfInBounds_toArray, List.set_cons_zero, List.set_cons_succ]
    refine .step (some 47) rfl rfl (by kernel_rfl) (Gives.load_row 58 (.tmp 8) rfl (g8) rfl 58 _ (fun w' h => h8.belowAll h) Tryd.underlying58 rfl (pl_info _)) ?_
    simp only [Act.put, List.setIfInBounds_toArray, List.set_cons_zero, List.set_cons_succ]
    refine .step (some 48) rfl rfl (by kernel_rfl) (Gives.call (args := [.agg (PL (adP P ze1)).toArray, .agg (PL P).toArray]) rfl Tryd.func44 (by kernel_rfl) (by kernel_rfl) rfl (fun w' h => sa_is (adP_ok hP ze1_ok) hP s3 w' ((hq.belowAll hw).belowAll h))) ?_
    simp only [Act.put, List.setIfInBounds_toArray, List.set_cons_zero, List.set_cons_succ]
    refine .step (some 49) rfl rfl (by kernel_rfl) (Gives.unop .not 4 (.tmp 48) rfl (.bool true) (.bool false) rfl (fun w' => rfl)) ?_
    simp only [Act.put, List.setIfInBounds_toArray, List.set_cons_zero, List.set_cons_succ]
    refine .step (some 50) rfl rfl (by kernel_rfl) (Gives.pick (.tmp 43) (.const (.bool true)) (.tmp 49) rfl false (.bool false) rfl rfl) ?_
    simp only [Act.put, List.setIfInBounds_toArray, List.set_cons_zero, List.set_cons_succ]
    refine .step (some 51) rfl rfl (by kernel_rfl) (Gives.move (x := (.tmp 50)) rfl rfl) ?_
    simp only [Act.put, List.setIfInBounds_toArray, List.set_cons_zero, List.set_cons_succ]
    refine .step (some 52) rfl rfl (by kernel_rfl) (Gives.load_row 58 (.tmp 8) rfl (g8) rfl 58 _ (fun w' h => h8.belowAll h) Tryd.underlying58 rfl (pl_info _)) ?_
    simp only [Act.put, List.setIfInBounds_toArray, List.set_cons_zero, List.set_cons_succ]
    refine .step (some 53) rfl rfl (by kernel_rfl) (Gives.load_row 58 (.tmp 8) rfl (g8) rfl 58 _ (fun w' h => h8.belowAll h) Tryd.underlying58 rfl (pl_info _)) ?_
    simp only [Act.put, List.setIfInBounds_toArray, List.set_cons_zero, List.set_cons_succ]
    refine .step (some 54) rfl rfl (by kernel_rfl) (Gives.call (args := [.agg (PL P).toArray]) rfl Tryd.func50 (by kernel_rfl) (by kernel_rfl) rfl (fun w' h => ng_any hP w' ((hq.belowAll hw).belowAll h))) ?_
    simp only [Act.put, List.setIfInBounds_toArray, List.set_cons_zero, List.set_cons_succ]
    refine .step (some 55) rfl rfl (by kernel_rfl) (Gives.call (args := [.agg (PL P).toArray, .agg (PL (ngP P)).toArray]) rfl Tryd.func53 (by kernel_rfl) (by kernel_rfl) rfl (fun w' h => ad_any hP (ngP_ok hP) w' ((hq.belowAll hw).belowAll h))) ?_
    simp only [Act.put, List.setIfInBounds_toArray, List.set_cons_zero, List.set_cons_succ]
    refine .step (some 56) rfl rfl (by kernel_rfl) (Gives.call (args := []) rfl Tryd.func45 (by kernel_rfl) (by kernel_rfl) rfl (fun w' h => ze_any w' ((hq.belowAll hw).belowAll h))) ?_
    simp only [Act.put, List.setIfInBounds_toArray, List.set_cons_zero, List.set_cons_succ]
    refine .step (some 57) rfl rfl (by kernel_rfl) (Gives.call (args := [.agg (PL (adP P (ngP P))).toArray, .agg (PL ze1).toArray]) rfl Tryd.func44 (by kernel_rfl) (by kernel_rfl) rfl (fun w' h => sa_is (adP_ok hP (ngP_ok hP)) ze1_ok s4 w' ((hq.belowAll hw).belowAll h))) ?_
    simp only [Act.put, List.setIfInBounds_toArray, List.set_cons_zero, List.set_cons_succ]
    refine .step (some 58) rfl rfl (by kernel_rfl) (Gives.unop .not 4 (.tmp 57) rfl (.bool true) (.bool false) rfl (fun w' => rfl)) ?_
    simp only [Act.put, List.setIfInBounds_toArray, List.set_cons_zero, List.set_cons_succ]
    refine .step (some 59) rfl rfl (by kernel_rfl) (Gives.pick (.tmp 51) (.const (.bool true)) (.tmp 58) rfl false (.bool false) rfl rfl) ?_
    simp only [Act.put, List.setIfInBounds_toArray, List.set_cons_zero, List.set_cons_succ]
    refine .step (some 60) rfl rfl (by kernel_rfl) (Gives.move (x := (.tmp 59)) rfl rfl) ?_
    simp only [Act.put, List.setIfInBounds_toArray, List.set_cons_zero, List.set_cons_succ]
    refine .step (some 61) rfl rfl (by kernel_rfl) (Gives.load_row 58 (.tmp 8) rfl (g8) rfl 58 _ (fun w' h => h8.belowAll h) Tryd.underlying58 rfl (pl_info _)) ?_
    simp only [Act.put, List.setIfInBounds_toArray, List.set_cons_zero, List.set_cons_succ]
    refine .step (some 62) rfl rfl (by kernel_rfl) (Gives.load_row 58 (.tmp 8) rfl (g8) rfl 58 _ (fun w' h => h8.belowAll h) Tryd.underlying58 rfl (pl_info _)) ?_
    simp only [Act.put, List.setIfInBounds_toArray, List.set_cons_zero, List.set_cons_succ]
    refine .step (some 63) rfl rfl (by kernel_rfl) (Gives.call (args := [.agg (PL P).toArray, .agg (PL P).toArray]) rfl Tryd.func53 (by kernel_rfl) (by kernel_rfl) rfl (fun w' h => ad_any hP hP w' ((hq.belowAll hw).belowAll h))) ?_
    simp only [Act.put, List.setIfInBounds_toArray, List.set_cons_zero, List.set_cons_succ]
    refine .step (some 64) rfl rfl (by kernel_rfl) (Gives.load_row 58 (.tmp 8) rfl (g8) rfl 58 _ (fun w' h => h8.belowAll h) Tryd.underlying58 rfl (pl_info _)) ?_
    simp only [Act.put, List.setIfInBounds_toArray, List.set_cons_zero, List.set_cons_succ]
    refine .step (some 65) rfl rfl (by kernel_rfl) (Gives.call (args := [.agg (PL P).toArray]) rfl Tryd.func55 (by kernel_rfl) (by kernel_rfl) rfl (fun w' h => do_any hP w' ((hq.belowAll hw).belowAll h))) ?_
    simp only [Act.put, List.setIfInBounds_toArray, List.set_cons_zero, List.set_cons_succ]
    refine .step (some 66) rfl rfl (by kernel_rfl) (Gives.call (args := [.agg (PL (adP P P)).toArray, .agg (PL (doP P)).toArray]) rfl Tryd.func44 (by kernel_rfl) (by kernel_rfl) rfl (fun w' h => sa_is (adP_ok hP hP) (doP_ok hP) s5 w' ((hq.belowAll hw).belowAll h))) ?_
    simp only [Act.put, List.setIfInBounds_toArray, List.set_cons_zero, List.set_cons_succ]
    refine .step (some 67) rfl rfl (by kernel_rfl) (Gives.unop .not 4 (.tmp 66) rfl (.bool true) (.bool false) rfl (fun w' => rfl)) ?_
    simp only [Act.put, List.setIfInBounds_toArray, List.set_cons_zero, List.set_cons_succ]
    refine .step (some 68) rfl rfl (by kernel_rfl) (Gives.pick (.tmp 60) (.const (.bool true)) (.tmp 67) rfl false (.bool false) rfl rfl) ?_
    simp only [Act.put, List.setIfInBounds_toArray, List.set_cons_zero, List.set_cons_succ]
    exact .nil
  case hkq2 => kernel_rfl
  case hq2 =>
  intro Wq2 hb
  replace hb0 := hb0.belowAll hb
  replace hb1 := hb1.belowAll hb
  replace hb2 := hb2.belowAll hb
  replace h7 := h7.belowAll hb
  replace h8 := h8.belowAll hb
  replace h9 := h9.belowAll hb
  replace h10 := h10.belowAll hb
  replace hw := hw.trans (hb.mono hw.size)
  clear hb
  go_wp2_with fail
  refine wp_flat_make (aD := ?aDq3) (S := fun w' => Below Wq2.heap.size Wq2 w') (vs := fun g => [(0, .agg (PL P).toArray), (1, .agg (PL Q).toArray), (2, .bool b), (3, .agg (PL P).toArray), (4, .agg (By (ptN P) 32).toArray), (5, .agg (PL Q).toArray), (6, .agg (By (ptN Q) 32).toArray), (7, .bool b), (8, .bool true), (9, .bool true), (10, .agg (PL Q).toArray), (11, .agg (By A 32).toArray), (12, .agg (PL (muP Q A)).toArray), (13, .agg (PL P).toArray), (14, .agg (By B 32).toArray), (15, .agg (PL (muP P B)).toArray), (16, .bool true), (17, .bool true), (18, .bool true), (19, .agg (PL baP).toArray), (20, .slice (some ⟨g, 0, none⟩) 32 32), (21, .agg (By qN 32).toArray), (22, .agg (PL (muP baP qN)).toArray), (23, .agg (PL ze1).toArray), (24, .bool true), (25, .bool true), (26, .bool true), (27, .bool true), (28, .bool true), (29, .bool true)]) 20 (fun g w => Rd w (fun _ => True) (some ⟨g, 0, none⟩) 32 (Tabs .i64 (byt qN) 32)) (fun g => .slice (some ⟨g, 0, none⟩) 32 32) [0, 1, 2, 3, 4, 5, 6, 7, 8, 9, 10, 11, 12, 13, 14, 15, 16, 17, 18, 19, 20, 21, 22, 23, 24, 25, 26, 27, 28, 29] (by kernel_rfl) ((Below.refl _ _).drew) (fun _ _ h k => S_trans h k) (fun _ _ _ _ h hb => h.belowAll hb)
    [(0, .agg (PL P).toArray), (1, .agg (PL Q).toArray), (2, .bool b), (3, .agg (PL P).toArray), (4, .agg (By (ptN P) 32).toArray), (5, .agg (PL Q).toArray), (6, .agg (By (ptN Q) 32).toArray), (7, .bool b), (8, .bool true), (9, .bool true), (10, .agg (PL Q).toArray), (11, .agg (By A 32).toArray), (12, .agg (PL (muP Q A)).toArray), (13, .agg (PL P).toArray), (14, .agg (By B 32).toArray), (15, .agg (PL (muP P B)).toArray), (16, .bool true), (17, .bool true), (18, .bool true), (19, .agg (PL baP).toArray)]
    [(21, .agg (By qN 32).toArray), (22, .agg (PL (muP baP qN)).toArray), (23, .agg (PL ze1).toArray), (24, .bool true), (25, .bool true), (26, .bool true), (27, .bool true), (28, .bool true), (29, .bool true)] (fun _ => rfl) (fun _ => rfl) ?hDq3 ?hkq3 ?hq3
  case hDq3 =>
    intro g
    refine .step (some 69) rfl rfl (by kernel_rfl) (by decide) (Gives.load_row 58 (.tmp 8) rfl (g8) rfl 58 _ (fun w' h => h8.belowAll h) Tryd.underlying58 rfl (pl_info _)) ?_
    simp only [Act.put, List.setIfInBounds_toArray, List.set_cons_zero, List.set_cons_succ]
    refine .step (some 70) rfl rfl (by kernel_rfl) (by decide) (Gives.load_row 58 (.tmp 9) rfl (g9) rfl 58 _ (fun w' h => h9.belowAll h) Tryd.underlying58 rfl (pl_info _)) ?_
    simp only [Act.put, List.setIfInBounds_toArray, List.set_cons_zero, List.set_cons_succ]
    refine .step (some 71) rfl rfl (by kernel_rfl) (by decide) (Gives.call (args := [.agg (PL P).toArray, .agg (PL Q).toArray]) rfl Tryd.func44 (by kernel_rfl) (by kernel_rfl) rfl (fun w' h => sa_is hP hQ s6 w' ((hq.belowAll hw).belowAll h))) ?_
    simp only [Act.put, List.setIfInBounds_toArray, List.set_cons_zero, List.set_cons_succ]
    refine .step (some 72) rfl rfl (by kernel_rfl) (by decide) (Gives.load_row 58 (.tmp 8) rfl (g8) rfl 58 _ (fun w' h => h8.belowAll h) Tryd.underlying58 rfl (pl_info _)) ?_
    simp only [Act.put, List.setIfInBounds_toArray, List.set_cons_zero, List.set_cons_succ]
    refine .step (some 73) rfl rfl (by kernel_rfl) (by decide) (Gives.call (args := [.agg (PL P).toArray]) rfl Tryd.func47 (by kernel_rfl) (by kernel_rfl) rfl (fun w' h => by_any hP w' ((hq.belowAll hw).belowAll h))) ?_
    simp only [Act.put, List.setIfInBounds_toArray, List.set_cons_zero, List.set_cons_succ]
    refine .step (some 74) rfl rfl (by kernel_rfl) (by decide) (Gives.load_row 58 (.tmp 9) rfl (g9) rfl 58 _ (fun w' h => h9.belowAll h) Tryd.underlying58 rfl (pl_info _)) ?_
    simp only [Act.put, List.setIfInBounds_toArray, List.set_cons_zero, List.set_cons_succ]
    refine .step (some 75) rfl rfl (by kernel_rfl) (by decide) (Gives.call (args := [.agg (PL Q).toArray]) rfl Tryd.func47 (by kernel_rfl) (by kernel_rfl) rfl (fun w' h => by_any hQ w' ((hq.belowAll hw).belowAll h))) ?_
    simp only [Act.put, List.setIfInBounds_toArray, List.set_cons_zero, List.set_cons_succ]
    refine .step (some 76) rfl rfl (by kernel_rfl) (by decide) (Gives.binop .eql 22 22 (.tmp 73) (.tmp 75) rfl (.agg (By (ptN P) 32).toArray) (.agg (By (ptN Q) 32).toArray) _ rfl rfl (fun w' => bgrd _ _ _ _ _ w') (fun w' => s9 w')) ?_
    simp only [Act.put, List.setIfInBounds_toArray, List.set_cons_zero, List.set_cons_succ]
    refine .step (some 77) rfl rfl (by kernel_rfl) (by decide) (Gives.binop .eql 4 4 (.tmp 71) (.tmp 76) rfl (.bool b) (.bool b) _ rfl rfl (fun w' => grd_bool _ _ _ w') (fun w' => bool_eq _ w')) ?_
    simp only [Act.put, List.setIfInBounds_toArray, List.set_cons_zero, List.set_cons_succ]
    refine .step (some 78) rfl rfl (by kernel_rfl) (by decide) (Gives.move (x := (.tmp 77)) rfl rfl) ?_
    simp only [Act.put, List.setIfInBounds_toArray, List.set_cons_zero, List.set_cons_succ]
    refine .step (some 79) rfl rfl (by kernel_rfl) (by decide) (Gives.load_row 58 (.tmp 9) rfl (g9) rfl 58 _ (fun w' h => h9.belowAll h) Tryd.underlying58 rfl (pl_info _)) ?_
    simp only [Act.put, List.setIfInBounds_toArray, List.set_cons_zero, List.set_cons_succ]
    refine .step (some 80) rfl rfl (by kernel_rfl) (by decide) (Gives.load_row 22 (.tmp 3) rfl (w.heap.size) rfl 22 _ (fun w' h => hb0.belowAll h) Tryd.underlying22 rfl (by_info _)) ?_
    simp only [Act.put, List.setIfInBounds_toArray, List.set_cons_zero, List.set_cons_succ]
    refine .step (some 81) rfl rfl (by kernel_rfl) (by decide) (Gives.call (args := [.agg (PL Q).toArray, .agg (By A 32).toArray]) rfl Tryd.func56 (by kernel_rfl) (by kernel_rfl) rfl (fun w' h => mu_any hQ A w' ((hq.belowAll hw).belowAll h))) ?_
    simp only [Act.put, List.setIfInBounds_toArray, List.set_cons_zero, List.set_cons_succ]
    refine .step (some 82) rfl rfl (by kernel_rfl) (by decide) (Gives.load_row 58 (.tmp 8) rfl (g8) rfl 58 _ (fun w' h => h8.belowAll h) Tryd.underlying58 rfl (pl_info _)) ?_
    simp only [Act.put, List.setIfInBounds_toArray, List.set_cons_zero, List.set_cons_succ]
    refine .step (some 83) rfl rfl (by kernel_rfl) (by decide) (Gives.load_row 22 (.tmp 4) rfl (w.heap.size + 1) rfl 22 _ (fun w' h => hb1.belowAll h) Tryd.underlying22 rfl (by_info _)) ?_
    simp only [Act.put, List.setIfInBounds_toArray, List.set_cons_zero, List.set_cons_succ]
    refine .step (some 84) rfl rfl (by kernel_rfl) (by decide) (Gives.call (args := [.agg (PL P).toArray, .agg (By B 32).toArray]) rfl Tryd.func56 (by kernel_rfl) (by kernel_rfl) rfl (fun w' h => mu_any hP B w' ((hq.belowAll hw).belowAll h))) ?_
    simp only [Act.put, List.setIfInBounds_toArray, List.set_cons_zero, List.set_cons_succ]
    refine .step (some 85) rfl rfl (by kernel_rfl) (by decide) (Gives.call (args := [.agg (PL (muP Q A)).toArray, .agg (PL (muP P B)).toArray]) rfl Tryd.func44 (by kernel_rfl) (by kernel_rfl) rfl (fun w' h => sa_is (muP_ok hQ A) (muP_ok hP B) s7 w' ((hq.belowAll hw).belowAll h))) ?_
    simp only [Act.put, List.setIfInBounds_toArray, List.set_cons_zero, List.set_cons_succ]
    refine .step (some 86) rfl rfl (by kernel_rfl) (by decide) (Gives.pick (.tmp 78) (.tmp 85) (.const (.bool false)) rfl true (.bool true) rfl rfl) ?_
    simp only [Act.put, List.setIfInBounds_toArray, List.set_cons_zero, List.set_cons_succ]
    refine .step (some 87) rfl rfl (by kernel_rfl) (by decide) (Gives.move (x := (.tmp 86)) rfl rfl) ?_
    simp only [Act.put, List.setIfInBounds_toArray, List.set_cons_zero, List.set_cons_succ]
    refine .step (some 88) rfl rfl (by kernel_rfl) (by decide) (Gives.load_row 58 (.tmp 7) rfl (g7) rfl 58 _ (fun w' h => h7.belowAll h) Tryd.underlying58 rfl (pl_info _)) ?_
    simp only [Act.put, List.setIfInBounds_toArray, List.set_cons_zero, List.set_cons_succ]
    refine .stepMake (some 89) rfl rfl (by kernel_rfl) (Makes.call (args := []) rfl Tryd.func63 (by kernel_rfl) (by kernel_rfl) rfl (fun w' h => q5_any w')) ?_
    simp only [Act.put, List.setIfInBounds_toArray, List.set_cons_zero, List.set_cons_succ]
    refine .stepLook (some 90) rfl rfl (by kernel_rfl) (by decide) (by kernel_rfl) (Gives.call (args := [.slice (some ⟨g, 0, none⟩) 32 32]) rfl Tryd.func62 (by kernel_rfl) (by kernel_rfl) rfl (fun w' h => rb5_any qN_lt (some ⟨g, 0, none⟩) 32 (fun _ => True) w' h.2)) ?_
    simp only [Act.put, List.setIfInBounds_toArray, List.set_cons_zero, List.set_cons_succ]
    refine .step (some 91) rfl rfl (by kernel_rfl) (by decide) (Gives.call (args := [.agg (PL baP).toArray, .agg (By qN 32).toArray]) rfl Tryd.func56 (by kernel_rfl) (by kernel_rfl) rfl (fun w' h => mu_any baP_ok qN w' ((hq.belowAll hw).belowAll h))) ?_
    simp only [Act.put, List.setIfInBounds_toArray, List.set_cons_zero, List.set_cons_succ]
    refine .step (some 92) rfl rfl (by kernel_rfl) (by decide) (Gives.call (args := []) rfl Tryd.func45 (by kernel_rfl) (by kernel_rfl) rfl (fun w' h => ze_any w' ((hq.belowAll hw).belowAll h))) ?_
    simp only [Act.put, List.setIfInBounds_toArray, List.set_cons_zero, List.set_cons_succ]
    refine .step (some 93) rfl rfl (by kernel_rfl) (by decide) (Gives.call (args := [.agg (PL (muP baP qN)).toArray, .agg (PL ze1).toArray]) rfl Tryd.func44 (by kernel_rfl) (by kernel_rfl) rfl (fun w' h => sa_is (muP_ok baP_ok qN) ze1_ok s8 w' ((hq.belowAll hw).belowAll h))) ?_
    simp only [Act.put, List.setIfInBounds_toArray, List.set_cons_zero, List.set_cons_succ]
    refine .step (some 94) rfl rfl (by kernel_rfl) (by decide) (Gives.pick (.tmp 87) (.tmp 93) (.const (.bool false)) rfl true (.bool true) rfl rfl) ?_
    simp only [Act.put, List.setIfInBounds_toArray, List.set_cons_zero, List.set_cons_succ]
    refine .step (some 95) rfl rfl (by kernel_rfl) (by decide) (Gives.move (x := (.tmp 94)) rfl rfl) ?_
    simp only [Act.put, List.setIfInBounds_toArray, List.set_cons_zero, List.set_cons_succ]
    refine .step (some 96) rfl rfl (by kernel_rfl) (by decide) (Gives.call (args := []) rfl Tryd.func46 (by kernel_rfl) (by kernel_rfl) rfl (fun w' h => awake6 w' ((hq.belowAll hw).belowAll h))) ?_
    simp only [Act.put, List.setIfInBounds_toArray, List.set_cons_zero, List.set_cons_succ]
    refine .step (some 97) rfl rfl (by kernel_rfl) (by decide) (Gives.pick (.tmp 95) (.tmp 96) (.const (.bool false)) rfl true (.bool true) rfl rfl) ?_
    simp only [Act.put, List.setIfInBounds_toArray, List.set_cons_zero, List.set_cons_succ]
    refine .step (some 6) rfl rfl (by kernel_rfl) (by decide) (Gives.assign (x := (.tmp 97)) rfl rfl) ?_
    simp only [Act.put, List.setIfInBounds_toArray, List.set_cons_zero, List.set_cons_succ]
    exact .nil
  case hkq3 => kernel_rfl
  case hq3 =>
  intro _ Wq3 hb _
  replace hb0 := hb0.belowAll hb
  replace hb1 := hb1.belowAll hb
  replace hb2 := hb2.belowAll hb
  replace h7 := h7.belowAll hb
  replace h8 := h8.belowAll hb
  replace h9 := h9.belowAll hb
  replace h10 := h10.belowAll hb
  replace hw := hw.trans (hb.mono hw.size)
  clear hb
  go_wp2_with fail
  go_ret
  exact ⟨rfl, hw⟩

end Go.Proofs.YthpbipebpaeagaaDoor
