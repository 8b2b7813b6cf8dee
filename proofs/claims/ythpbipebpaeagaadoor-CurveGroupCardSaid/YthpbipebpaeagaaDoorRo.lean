/- The document's Root. -/
import Derived.Test.YthpbipebpaeagaaDoorRk
namespace Go.Proofs.YthpbipebpaeagaaDoor
set_option maxRecDepth 100000
set_option linter.unusedSimpArgs false
open Go.RowKit

/-- (p + 3) / 8; (p - 1) / 4. -/
def eR1 : Nat := 7237005577332262213973186563042994240829374041602535252466099000494570602494
def eH : Nat := 14474011154664524427946373126085988481658748083205070504932198000989141204987
theorem eR1_eq : (pp + 3) / 2 ^ 3 = eR1 := by decide
theorem eR1_rt : eRt + 1 = eR1 := by decide
theorem eH_eq : (pp - 1) / 2 ^ 2 = eH := by decide
theorem shift_p3 (w : World) : Calls Tryd.prog 76 #[.agg (Nw (pp + 3)).toArray, .int .i64 3] w fun e w' => e = .returned (.agg (Nw eR1).toArray) ∧ Below w.heap.size w w' := by
  have h := shift_ref (pp + 3) 3 (by decide) (by decide) w
  rwa [eR1_eq] at h
theorem shift_p1 (w : World) : Calls Tryd.prog 76 #[.agg (Nw (pp - 1)).toArray, .int .i64 2] w fun e w' => e = .returned (.agg (Nw eH).toArray) ∧ Below w.heap.size w w' := by
  have h := shift_ref (pp - 1) 2 (by decide) (by decide) w
  rwa [eH_eq] at h
theorem P3_set : (Nw pp).set 0 (.int .u32 4294967280) = Nw (pp + 3) := by kernel_rfl
theorem P0_cell : (Nw pp)[0]? = some (.int .u32 4294967277) := by kernel_rfl
theorem nne_t {x y : Lm} (h : decide (nu x = nu y) = true) (w : World) : (binOp .neq 30 (.agg (Nw (nu x)).toArray) (.agg (Nw (nu y)).toArray)).run Tryd.prog w = .ok (.bool false) w := by
  rw [nne_num (nu_W8 x) (nu_W8 y), h]; rfl
theorem nne_f {x y : Lm} (h : decide (nu x = nu y) = false) (w : World) : (binOp .neq 30 (.agg (Nw (nu x)).toArray) (.agg (Nw (nu y)).toArray)).run Tryd.prog w = .ok (.bool true) w := by
  rw [nne_num (nu_W8 x) (nu_W8 y), h]; rfl
theorem oddr_is {x : Lm} {b : Bool} (h : decide (nu x % 2 = 1) = b) (w : World) : Calls Tryd.prog 19 #[.agg (Nw (nu x)).toArray] w fun e w' => e = .returned (.bool b) ∧ Below w.heap.size w w' := by
  rw [← h]; exact oddr_ref (nu x) w
/-- The quotient; the candidate; the root of -1. -/
theorem nu_q (u v : Lm) : nu (mulL u (invL v)) = quo u v % pp := by
  rw [nu_mulP, nu_invP]
  unfold quo
  rw [Nat.mul_mod_mod]
theorem nu_c {u v : Lm} (hv : nu v ≠ 0) : nu (powL (mulL u (invL v)) eR1) = nu (candL u v) := by
  have h := cand_q (u := u) hv
  rw [nu_mod] at h
  rw [nu_powP _ (by decide), nu_q, h, eR1_rt, ← Nat.pow_mod]
theorem nu_h : nu (powL (smL 2) eH) = nu rtL := by
  have h := rt_minus eH rfl
  rw [← pp_eq] at h
  have h2 := nu_powP (smL 2) (N := eH) (by decide)
  rw [nu_smL (by decide)] at h2
  rw [h2, nu_rtL]
  exact h
theorem sq_fit {u v x y : Lm} (hv : nu v ≠ 0) (h : nu x = nu y) : decide (nu (mulL x x) = nu (mulL u (invL v))) = fitB y u v := by
  have h1 := fitB_iff (r := y) (u := u) hv
  rw [nu_mulP, nu_q, h]
  by_cases hf : fitB y u v = true
  · rw [hf, decide_eq_true (h1.1 hf)]
  · rw [decide_eq_false (fun e => hf (h1.2 e))]
    simpa using (Bool.not_eq_true _ ▸ hf)
theorem root_no {u v : Lm} (h : rootOk u v = false) : nu (rootL u v) = 0 := by
  unfold rootL
  rw [h]
  exact nu_zeL
theorem root_yes {u v x : Lm} (hu : u.ok) (hv : v.ok) (hx : x.ok) (h : rootOk u v = true) (he : nu x = nu (root1 u v)) : nu (rootL u v) = if nu x % 2 = 1 then nu (negL x) else nu x := by
  unfold rootL
  rw [h, if_pos rfl, he]
  split
  · rw [nu_negP hx, nu_negP (root1_ok hu hv), he]
  · rfl
theorem ok_fit {u v : Lm} (hv : nu v ≠ 0) : rootOk u v = fitB (root1 u v) u v := by
  unfold rootOk
  rw [decide_eq_false hv]
  rfl


set_option maxHeartbeats 12800000 in
theorem rootr_nu {u v : Lm} (hu : u.ok) (hv : v.ok) (w : World) :
    Calls Tryd.prog 41 #[.agg (Nw (nu u)).toArray, .agg (Nw (nu v)).toArray] w fun e w' => e = .returned (.tuple #[.agg (Nw (nu (rootL u v))).toArray, .bool (rootOk u v)]) ∧ Below w.heap.size w w' := by
  have hru := ((Row.new w (Nw (nu u)) 30).alloc (.cells (Nw (nu v)).toArray 30)).alloc (.cells #[.int .u32 0, .int .u32 0, .int .u32 0, .int .u32 0, .int .u32 0, .int .u32 0, .int .u32 0, .int .u32 0] 30)
  have hrv := (Row.new1 w (.cells (Nw (nu u)).toArray 30) (Nw (nu v)) 30).alloc (.cells #[.int .u32 0, .int .u32 0, .int .u32 0, .int .u32 0, .int .u32 0, .int .u32 0, .int .u32 0, .int .u32 0] 30)
  have hz : Row (((w.alloc (.cells (Nw (nu u)).toArray 30)).alloc (.cells (Nw (nu v)).toArray 30)).alloc (.cells #[.int .u32 0, .int .u32 0, .int .u32 0, .int .u32 0, .int .u32 0, .int .u32 0, .int .u32 0, .int .u32 0] 30)) (w.heap.size + 1 + 1) 30 (Nw 0) := by
    rw [Nw_zero]
    exact Row.new2 w _ _ _ _
  have hb0 := Below.alloc3 w (.cells (Nw (nu u)).toArray 30) (.cells (Nw (nu v)).toArray 30) (.cells #[.int .u32 0, .int .u32 0, .int .u32 0, .int .u32 0, .int .u32 0, .int .u32 0, .int .u32 0, .int .u32 0] 30)
  by_cases hv0 : nu v = 0
  · have hrk := root_none (u := u) hv0
    have hn0 := root_no hrk
    have hd : decide (nu v = 0) = true := decide_eq_true hv0
    have hcmp := fun wx => neq_zero v wx
    rw [hd] at hcmp
    have hgot := setRow_heap _ (w.heap.size + 1 + 1) _ (Nw 0).toArray _ _ hz
    have HCMP := Lib.hid hcmp
    have HGOT := Lib.hid hgot
    have HRV := Lib.hid hrv
    have HZ := Lib.hid hz
    have HN0 := Lib.hid hn0
    have HRK := Lib.hid hrk
    have HB0 := Lib.hid hb0
    clear hcmp hgot hrv hz hn0 hrk hb0 hd hv0 hru
    go_enter Tryd.func41, Tryd.ntmps41
    go_wp2_with (first
      | (refine wpList_load_row rfl 30 (.tmp 3) rfl (w.heap.size + 1) rfl 30 _ (0, 0) _ HRV.out Tryd.underlying30 rfl (nw_info _) ?_)
      | (refine wpList_build0 rfl 30 rfl _ (nw_build _) ?_)
      | (refine wpList_binop _ .eql 30 30 (.tmp 12) (.tmp 13) rfl (by rfl) (.agg (Nw (nu v)).toArray) (.agg (Nw 0).toArray) (.bool true) rfl rfl (ngrd _ _ _ _ _ _) (HCMP.out _) ?_)
      | (refine wpList_store_row rfl 30 (.tmp 4) (.tmp 15) rfl (w.heap.size + 1 + 1) _ rfl rfl 30 _ HZ.out (nw_info _) (Nw_sz _ _) (Nw_one _) ?_))
    refine bodyPost_ret (results_row_slot (by rfl) _ _ (w.heap.size + 1 + 1) _ _ _ _ (.bool false) (by rfl) HGOT.out Tryd.underlying30 rfl (nw_info _) (by rfl)) rfl ?_
    exact ⟨by rw [HN0.out, HRK.out], below_setRow HB0.out (by omega) _⟩
  · have hd : decide (nu v = 0) = false := decide_eq_false hv0
    have hcmp := fun wx => neq_zero v wx
    rw [hd] at hcmp
    have HCMP := Lib.hid hcmp
    have HRV := Lib.hid hrv
    clear hcmp hd
    go_enter Tryd.func41, Tryd.ntmps41
    go_wp2_with (first
      | (refine wpList_load_row rfl 30 (.tmp 3) rfl (w.heap.size + 1) rfl 30 _ (0, 0) _ HRV.out Tryd.underlying30 rfl (nw_info _) ?_)
      | (refine wpList_build0 rfl 30 rfl _ (nw_build _) ?_)
      | (refine wpList_binop _ .eql 30 30 (.tmp 12) (.tmp 13) rfl (by rfl) (.agg (Nw (nu v)).toArray) (.agg (Nw 0).toArray) (.bool false) rfl rfl (ngrd _ _ _ _ _ _) (HCMP.out _) ?_))
    generalize ((w.alloc (.cells (Nw (nu u)).toArray 30)).alloc (.cells (Nw (nu v)).toArray 30)).alloc (.cells #[.int .u32 0, .int .u32 0, .int .u32 0, .int .u32 0, .int .u32 0, .int .u32 0, .int .u32 0, .int .u32 0] 30) = W0 at *
    clear HCMP
    have hrv := HRV.out
    have hzlt := hz.lt
    have hQk : (mulL u (invL v)).ok := mulL_ok hu (invL_ok hv)
    have hRk : (powL (mulL u (invL v)) eR1).ok := powL_ok hQk _
    refine wp_vars_one (aD := ?aD3) (B := W0.heap.size) (S := fun w' => Below W0.heap.size W0 w') (k1 := 4) (s1 := 5) (T1 := 30) (L1 := 30) (z1 := Nw 0) (c1 := Nw (nu (mulL u (invL v)))) (x1 := .tmp 6) (y1 := .tmp 19)
      (vs := [(0, .agg (Nw (nu u)).toArray), (1, .agg (Nw (nu v)).toArray), (2, .agg (Nw (nu (invL v))).toArray), (3, .agg (Nw (nu (mulL u (invL v)))).toArray)]) (by kernel_rfl) ((Below.refl _ _).drew) (fun _ _ h k => S_trans h k) (fun _ _ _ h hg => S_row h hg _) (fun _ h => h.size) ?hD3 (.of rfl rfl rfl (fun w' => nw_alloc w')) ?hk3 rfl rfl (some 6) rfl rfl rfl ?e3 ?f3 (nw_info _) (Nw_sz _ _) (Nw_one _) ?h3
    case hD3 =>
      refine .step (some 16) rfl rfl (by kernel_rfl) (Gives.load_row 30 (.tmp 2) rfl (w.heap.size) rfl 30 _ (fun w' h => hru.belowAll h) Tryd.underlying30 rfl (nw_info _)) ?_
      simp only [Act.put, List.setIfInBounds_toArray, List.set_cons_zero, List.set_cons_succ]
      refine .step (some 17) rfl rfl (by kernel_rfl) (Gives.load_row 30 (.tmp 3) rfl (w.heap.size + 1) rfl 30 _ (fun w' h => hrv.belowAll h) Tryd.underlying30 rfl (nw_info _)) ?_
      simp only [Act.put, List.setIfInBounds_toArray, List.set_cons_zero, List.set_cons_succ]
      refine .step (some 18) rfl rfl (by kernel_rfl) (Gives.call (args := [.agg (Nw (nu v)).toArray]) rfl Tryd.func35 (by kernel_rfl) (by kernel_rfl) rfl (fun w' h => invr_nu v w')) ?_
      simp only [Act.put, List.setIfInBounds_toArray, List.set_cons_zero, List.set_cons_succ]
      refine .step (some 19) rfl rfl (by kernel_rfl) (Gives.call (args := [.agg (Nw (nu u)).toArray, .agg (Nw (nu (invL v))).toArray]) rfl Tryd.func32 (by kernel_rfl) (by kernel_rfl) rfl (fun w' h => mulr_nu u (invL v) w')) ?_
      simp only [Act.put, List.setIfInBounds_toArray, List.set_cons_zero, List.set_cons_succ]
      exact .nil
    case hk3 => kernel_rfl
    case e3 => exact fun p => rfl
    case f3 => exact fun p => rfl
    case h3 =>
    intro gq W1 hb1 hgq hq1
    have hz1 := hz.belowAll hb1
    have hw1 := hb0.trans (hb1.mono hb0.size)
    have hs1 := hb1.size
    clear hru hrv hz hb0 hb1 HRV
    go_wp2_with fail
    refine (P_any _).mono ?_
    rintro e2 W2 ⟨rfl, hb2⟩
    have hq2 := hq1.belowAll hb2
    have hz2 := hz1.belowAll hb2
    have hw2 := hw1.trans (hb2.mono hw1.size)
    have hlq := hq2.lt
    have hlz := hz2.lt
    have e7 := nw_zero_row W2
    have e7s := e7.setRow (Nw pp)
    have e7c := e7s.cell P0_cell
    have e7f := e7s.free 0
    have h74 := e7s.set 0 (.int .u32 4294967280)
    rw [P3_set] at h74
    have hq4 := ((hq2.alloc (.cells #[.int .u32 0, .int .u32 0, .int .u32 0, .int .u32 0, .int .u32 0, .int .u32 0, .int .u32 0, .int .u32 0] 30)).setRowOther (k := W2.heap.size) (by omega) (Nw pp).toArray).setCell (p := ⟨W2.heap.size, 0, none⟩) (by show gq ≠ W2.heap.size; omega) (.int .u32 4294967280)
    have hz4 := ((hz2.alloc (.cells #[.int .u32 0, .int .u32 0, .int .u32 0, .int .u32 0, .int .u32 0, .int .u32 0, .int .u32 0, .int .u32 0] 30)).setRowOther (k := W2.heap.size) (by omega) (Nw pp).toArray).setCell (p := ⟨W2.heap.size, 0, none⟩) (by show w.heap.size + 1 + 1 ≠ W2.heap.size; omega) (.int .u32 4294967280)
    have hw4 := (below_setRow (g := W2.heap.size) (hw2.alloc hw2.size (.cells #[.int .u32 0, .int .u32 0, .int .u32 0, .int .u32 0, .int .u32 0, .int .u32 0, .int .u32 0, .int .u32 0] 30)) hw2.size (Nw pp).toArray).setCell (p := ⟨W2.heap.size, 0, none⟩) hw2.size (.int .u32 4294967280)
    have E7 := Lib.hid e7
    have H74 := Lib.hid h74
    have HQ4 := Lib.hid hq4
    have HZ4 := Lib.hid hz4
    have HW4 := Lib.hid hw4
    have HQS := Lib.hid hs1
    clear hq1 hz1 hw1 hb2 hq2 hz2 hw2 e7 e7s h74 hq4 hz4 hw4 hs1
    go_wp2_with (refine wpList_store_row rfl 30 (.tmp 7) (.tmp 20) rfl (W2.heap.size) _ rfl rfl 30 _ E7.out (nw_info _) (Nw_sz _ _) (Nw_one _) ?_)
    have h74 := H74.out
    have hq4 := HQ4.out
    have hz4 := HZ4.out
    have hw4 := HW4.out
    clear H74 HQ4 HZ4 HW4 E7 e7c e7f
    generalize ((W2.alloc (.cells #[.int .u32 0, .int .u32 0, .int .u32 0, .int .u32 0, .int .u32 0, .int .u32 0, .int .u32 0, .int .u32 0] 30)).setRow W2.heap.size (Nw pp).toArray).setCell ⟨W2.heap.size, 0, none⟩ (.int .u32 4294967280) = W4 at *
    refine wp_vars_one (aD := ?aD6) (B := W4.heap.size) (S := fun w' => Below W4.heap.size W4 w') (k1 := 5) (s1 := 6) (T1 := 30) (L1 := 30) (z1 := Nw 0) (c1 := Nw (nu (powL (mulL u (invL v)) eR1))) (x1 := .tmp 8) (y1 := .tmp 29)
      (vs := [(0, .agg (Nw (nu (mulL u (invL v)))).toArray), (1, .agg (Nw (pp + 3)).toArray), (2, .agg (Nw eR1).toArray), (3, .agg (By eR1 32).toArray), (4, .agg (Nw (nu (powL (mulL u (invL v)) eR1))).toArray)]) (by kernel_rfl) ((Below.refl _ _).drew) (fun _ _ h k => S_trans h k) (fun _ _ _ h hg => S_row h hg _) (fun _ h => h.size) ?hD6 (.of rfl rfl rfl (fun w' => nw_alloc w')) ?hk6 rfl rfl (some 8) rfl rfl rfl ?e6 ?f6 (nw_info _) (Nw_sz _ _) (Nw_one _) ?h6
    case hD6 =>
      refine .step (some 25) rfl rfl (by kernel_rfl) (Gives.load_row 30 (.tmp 6) rfl (gq) rfl 30 _ (fun w' h => hq4.belowAll h) Tryd.underlying30 rfl (nw_info _)) ?_
      simp only [Act.put, List.setIfInBounds_toArray, List.set_cons_zero, List.set_cons_succ]
      refine .step (some 26) rfl rfl (by kernel_rfl) (Gives.load_row 30 (.tmp 7) rfl (W2.heap.size) rfl 30 _ (fun w' h => h74.belowAll h) Tryd.underlying30 rfl (nw_info _)) ?_
      simp only [Act.put, List.setIfInBounds_toArray, List.set_cons_zero, List.set_cons_succ]
      refine .step (some 27) rfl rfl (by kernel_rfl) (Gives.call (args := [.agg (Nw (pp + 3)).toArray, .int .i64 3]) rfl Tryd.func76 (by kernel_rfl) (by kernel_rfl) rfl (fun w' h => shift_p3 w')) ?_
      simp only [Act.put, List.setIfInBounds_toArray, List.set_cons_zero, List.set_cons_succ]
      refine .step (some 28) rfl rfl (by kernel_rfl) (Gives.call (args := [.agg (Nw eR1).toArray]) rfl Tryd.func17 (by kernel_rfl) (by kernel_rfl) rfl (fun w' h => rbytes_ref eR1 w')) ?_
      simp only [Act.put, List.setIfInBounds_toArray, List.set_cons_zero, List.set_cons_succ]
      refine .step (some 29) rfl rfl (by kernel_rfl) (Gives.call (args := [.agg (Nw (nu (mulL u (invL v)))).toArray, .agg (By eR1 32).toArray]) rfl Tryd.func37 (by kernel_rfl) (by kernel_rfl) rfl (fun w' h => powr_nu (mulL u (invL v)) (by decide) w')) ?_
      simp only [Act.put, List.setIfInBounds_toArray, List.set_cons_zero, List.set_cons_succ]
      exact .nil
    case hk6 => kernel_rfl
    case e6 => exact fun p => rfl
    case f6 => exact fun p => rfl
    case h6 =>
    intro g8 W5 hb5 hg8 h85
    have hq5 := hq4.belowAll hb5
    have hz5 := hz4.belowAll hb5
    have hw5 := hw4.trans (hb5.mono hw4.size)
    have hlz4 := hz4.lt
    have HNE := Lib.hid (show w.heap.size + 1 + 1 ≠ g8 by omega)
    have HGE := Lib.hid (show w.heap.size ≤ g8 by have := hw4.size; omega)
    have hlq4 := hq4.lt
    have HNQ := Lib.hid (show gq ≠ g8 by omega)
    clear h74 hq4 hz4 hw4 hb5 hlz4 hlq4 hlq hlz hzlt hgq hg8 HQS
    have hc := nu_c (u := u) hv0
    go_wp2_with fail
    by_cases hf1 : fitB (candL u v) u v = true
    · have hft1 := (sq_fit (u := u) hv0 hc).trans hf1
      have HE : nu (powL (mulL u (invL v)) eR1) = nu (root1 u v) := by unfold root1; rw [if_pos hf1]; exact hc
      refine wp_flat_none (aD := ?aD7t) (S := fun w' => Below W5.heap.size W5 w') (vs := [(0, .agg (Nw (nu (powL (mulL u (invL v)) eR1))).toArray), (1, .agg (Nw (nu (powL (mulL u (invL v)) eR1))).toArray), (2, .agg (Nw (nu (mulL (powL (mulL u (invL v)) eR1) (powL (mulL u (invL v)) eR1)))).toArray), (3, .agg (Nw (nu (mulL u (invL v)))).toArray), (4, .bool false)]) (by kernel_rfl) ((Below.refl _ _).drew) (fun _ _ h k => S_trans h k) ?hD7t ?hk7t ?h7t
      case hD7t =>
        refine .step (some 30) rfl rfl (by kernel_rfl) (Gives.load_row 30 (.tmp 8) rfl (g8) rfl 30 _ (fun w' h => h85.belowAll h) Tryd.underlying30 rfl (nw_info _)) ?_
        simp only [Act.put, List.setIfInBounds_toArray, List.set_cons_zero, List.set_cons_succ]
        refine .step (some 31) rfl rfl (by kernel_rfl) (Gives.load_row 30 (.tmp 8) rfl (g8) rfl 30 _ (fun w' h => h85.belowAll h) Tryd.underlying30 rfl (nw_info _)) ?_
        simp only [Act.put, List.setIfInBounds_toArray, List.set_cons_zero, List.set_cons_succ]
        refine .step (some 32) rfl rfl (by kernel_rfl) (Gives.call (args := [.agg (Nw (nu (powL (mulL u (invL v)) eR1))).toArray, .agg (Nw (nu (powL (mulL u (invL v)) eR1))).toArray]) rfl Tryd.func32 (by kernel_rfl) (by kernel_rfl) rfl (fun w' h => mulr_nu (powL (mulL u (invL v)) eR1) (powL (mulL u (invL v)) eR1) w')) ?_
        simp only [Act.put, List.setIfInBounds_toArray, List.set_cons_zero, List.set_cons_succ]
        refine .step (some 33) rfl rfl (by kernel_rfl) (Gives.load_row 30 (.tmp 6) rfl (gq) rfl 30 _ (fun w' h => hq5.belowAll h) Tryd.underlying30 rfl (nw_info _)) ?_
        simp only [Act.put, List.setIfInBounds_toArray, List.set_cons_zero, List.set_cons_succ]
        refine .step (some 34) rfl rfl (by kernel_rfl) (Gives.binop .neq 30 30 (.tmp 32) (.tmp 33) rfl (.agg (Nw (nu (mulL (powL (mulL u (invL v)) eR1) (powL (mulL u (invL v)) eR1)))).toArray) (.agg (Nw (nu (mulL u (invL v)))).toArray) _ rfl rfl (fun w' => ngrd _ _ _ _ _ w') (fun w' => nne_t hft1 w')) ?_
        simp only [Act.put, List.setIfInBounds_toArray, List.set_cons_zero, List.set_cons_succ]
        exact .nil
      case hk7t => kernel_rfl
      case h7t =>
      intro W6 hb6
      have hq6 := hq5.belowAll hb6
      have hz6 := hz5.belowAll hb6
      have h86 := h85.belowAll hb6
      have hw6 := hw5.trans (hb6.mono hw5.size)
      have HHE := Lib.hid HE
      have HV0 := Lib.hid hv0
      clear hq5 hz5 h85 hw5 hb6 hft1 hf1 hc HE hv0
      go_wp2_with fail
      have hv0 := HV0.out
      have HE := HHE.out
      by_cases hfit : fitB (root1 u v) u v = true
      · have hft := (sq_fit (u := u) hv0 HE).trans hfit
        have hrk : rootOk u v = true := by rw [ok_fit hv0]; exact hfit
        refine wp_flat_none (aD := ?aDat) (S := fun w' => Below W6.heap.size W6 w') (vs := [(0, .agg (Nw (nu (powL (mulL u (invL v)) eR1))).toArray), (1, .agg (Nw (nu (powL (mulL u (invL v)) eR1))).toArray), (2, .agg (Nw (nu (mulL (powL (mulL u (invL v)) eR1) (powL (mulL u (invL v)) eR1)))).toArray), (3, .agg (Nw (nu (mulL u (invL v)))).toArray), (4, .bool false)]) (by kernel_rfl) ((Below.refl _ _).drew) (fun _ _ h k => S_trans h k) ?hDat ?hkat ?hat
        case hDat =>
          refine .step (some 49) rfl rfl (by kernel_rfl) (Gives.load_row 30 (.tmp 8) rfl (g8) rfl 30 _ (fun w' h => h86.belowAll h) Tryd.underlying30 rfl (nw_info _)) ?_
          simp only [Act.put, List.setIfInBounds_toArray, List.set_cons_zero, List.set_cons_succ]
          refine .step (some 50) rfl rfl (by kernel_rfl) (Gives.load_row 30 (.tmp 8) rfl (g8) rfl 30 _ (fun w' h => h86.belowAll h) Tryd.underlying30 rfl (nw_info _)) ?_
          simp only [Act.put, List.setIfInBounds_toArray, List.set_cons_zero, List.set_cons_succ]
          refine .step (some 51) rfl rfl (by kernel_rfl) (Gives.call (args := [.agg (Nw (nu (powL (mulL u (invL v)) eR1))).toArray, .agg (Nw (nu (powL (mulL u (invL v)) eR1))).toArray]) rfl Tryd.func32 (by kernel_rfl) (by kernel_rfl) rfl (fun w' h => mulr_nu (powL (mulL u (invL v)) eR1) (powL (mulL u (invL v)) eR1) w')) ?_
          simp only [Act.put, List.setIfInBounds_toArray, List.set_cons_zero, List.set_cons_succ]
          refine .step (some 52) rfl rfl (by kernel_rfl) (Gives.load_row 30 (.tmp 6) rfl (gq) rfl 30 _ (fun w' h => hq6.belowAll h) Tryd.underlying30 rfl (nw_info _)) ?_
          simp only [Act.put, List.setIfInBounds_toArray, List.set_cons_zero, List.set_cons_succ]
          refine .step (some 53) rfl rfl (by kernel_rfl) (Gives.binop .neq 30 30 (.tmp 51) (.tmp 52) rfl (.agg (Nw (nu (mulL (powL (mulL u (invL v)) eR1) (powL (mulL u (invL v)) eR1)))).toArray) (.agg (Nw (nu (mulL u (invL v)))).toArray) _ rfl rfl (fun w' => ngrd _ _ _ _ _ w') (fun w' => nne_t hft w')) ?_
          simp only [Act.put, List.setIfInBounds_toArray, List.set_cons_zero, List.set_cons_succ]
          exact .nil
        case hkat => kernel_rfl
        case hat =>
        intro W8 hb8
        have hz8 := hz6.belowAll hb8
        have h88 := h86.belowAll hb8
        have hw8 := hw6.trans (hb8.mono hw6.size)
        have hyes := root_yes hu hv hRk hrk HE
        have hne8 := HNE.out
        by_cases hodd : nu (powL (mulL u (invL v)) eR1) % 2 = 1
        · rw [if_pos hodd] at hyes
          have hod := decide_eq_true hodd
          have HOD := Lib.hid (fun wx => oddr_is hod wx)
          have HYES := Lib.hid hyes
          have HRK := Lib.hid hrk
          have HNG := Lib.hid (fun wx => negr_nu hRk wx)
          have HZ8 := Lib.hid hz8
          have H88 := Lib.hid h88
          have HW8 := Lib.hid hw8
          clear hz8 h88 hw8 hb8 hft hfit hrk hyes hodd hod hz6 hq6 h86 hw6 HE hne8
          go_wp2_with (first
            | (refine wpList_load_row rfl 30 (.tmp 8) rfl (g8) rfl 30 _ (0, 0) _ H88.out Tryd.underlying30 rfl (nw_info _) ?_))
          refine (HOD.out _).mono ?_
          rintro e9 w9 ⟨rfl, hb9⟩
          have hz9 := HZ8.out.belowAll hb9
          have h89 := H88.out.belowAll hb9
          have hw9 := HW8.out.trans (hb9.mono HW8.out.size)
          have HZ9 := Lib.hid hz9
          have H89 := Lib.hid h89
          have HW9 := Lib.hid hw9
          clear hz9 h89 hw9 hb9 HZ8 H88 HW8
          go_wp2_with (first
            | (refine wpList_build0 rfl 30 rfl _ (nw_build _) ?_)
            | (refine wpList_load_row rfl 30 (.tmp 8) rfl (g8) rfl 30 _ (0, 0) _ H89.out Tryd.underlying30 rfl (nw_info _) ?_))
          refine (HNG.out _).mono ?_
          rintro e10 w10 ⟨rfl, hb10⟩
          have hz10 := HZ9.out.belowAll hb10
          have h810 := H89.out.belowAll hb10
          have hw10 := HW9.out.trans (hb10.mono HW9.out.size)
          have h811 := h810.setRow (Nw (nu (negL (powL (mulL u (invL v)) eR1))))
          have hz11 := hz10.setRowOther (k := g8) HNE.out (Nw (nu (negL (powL (mulL u (invL v)) eR1)))).toArray
          have hw11 := below_setRow (g := g8) hw10 HGE.out (Nw (nu (negL (powL (mulL u (invL v)) eR1)))).toArray
          have hgot := setRow_heap _ (w.heap.size + 1 + 1) _ (Nw (nu (negL (powL (mulL u (invL v)) eR1)))).toArray _ _ hz11
          have HGOT := Lib.hid hgot
          have H810 := Lib.hid h810
          have H811 := Lib.hid h811
          have HZ11 := Lib.hid hz11
          have HW11 := Lib.hid hw11
          clear hz10 h810 hw10 h811 hz11 hw11 hb10 hgot
          go_wp2_with (first
            | (refine wpList_store_row rfl 30 (.tmp 8) (.tmp 59) rfl (g8) _ rfl rfl 30 _ H810.out (nw_info _) (Nw_sz _ _) (Nw_one _) ?_)
            | (refine wpList_load_row rfl 30 (.tmp 8) rfl (g8) rfl 30 _ (0, 0) _ H811.out Tryd.underlying30 rfl (nw_info _) ?_)
            | (refine wpList_store_row rfl 30 (.tmp 4) (.tmp 60) rfl (w.heap.size + 1 + 1) _ rfl rfl 30 _ HZ11.out (nw_info _) (Nw_sz _ _) (Nw_one _) ?_))
          refine bodyPost_ret (results_row_slot (by rfl) _ _ (w.heap.size + 1 + 1) _ _ _ _ (.bool true) (by rfl) HGOT.out Tryd.underlying30 rfl (nw_info _) (by rfl)) rfl ?_
          exact ⟨by rw [HYES.out, HRK.out], below_setRow HW11.out (by omega) _⟩
        · rw [if_neg hodd] at hyes
          have hod := decide_eq_false hodd
          have HOD := Lib.hid (fun wx => oddr_is hod wx)
          have HYES := Lib.hid hyes
          have HRK := Lib.hid hrk
          have HZ8 := Lib.hid hz8
          have H88 := Lib.hid h88
          have HW8 := Lib.hid hw8
          clear hz8 h88 hw8 hb8 hft hfit hrk hyes hodd hod hz6 hq6 h86 hw6 HE hne8
          go_wp2_with (first
            | (refine wpList_load_row rfl 30 (.tmp 8) rfl (g8) rfl 30 _ (0, 0) _ H88.out Tryd.underlying30 rfl (nw_info _) ?_))
          refine (HOD.out _).mono ?_
          rintro e9 w9 ⟨rfl, hb9⟩
          have hz9 := HZ8.out.belowAll hb9
          have h89 := H88.out.belowAll hb9
          have hw9 := HW8.out.trans (hb9.mono HW8.out.size)
          have hgot := setRow_heap _ (w.heap.size + 1 + 1) _ (Nw (nu (powL (mulL u (invL v)) eR1))).toArray _ _ hz9
          have HGOT := Lib.hid hgot
          have HZ9 := Lib.hid hz9
          have H89 := Lib.hid h89
          have HW9 := Lib.hid hw9
          clear hz9 h89 hw9 hb9 HZ8 H88 HW8 hgot
          go_wp2_with (first
            | (refine wpList_load_row rfl 30 (.tmp 8) rfl (g8) rfl 30 _ (0, 0) _ H89.out Tryd.underlying30 rfl (nw_info _) ?_)
            | (refine wpList_store_row rfl 30 (.tmp 4) (.tmp 60) rfl (w.heap.size + 1 + 1) _ rfl rfl 30 _ HZ9.out (nw_info _) (Nw_sz _ _) (Nw_one _) ?_))
          refine bodyPost_ret (results_row_slot (by rfl) _ _ (w.heap.size + 1 + 1) _ _ _ _ (.bool true) (by rfl) HGOT.out Tryd.underlying30 rfl (nw_info _) (by rfl)) rfl ?_
          exact ⟨by rw [HYES.out, HRK.out], below_setRow HW9.out (by omega) _⟩
  
      · have hft := (sq_fit (u := u) hv0 HE).trans ((Bool.not_eq_true _).mp hfit)
        have hrk : rootOk u v = false := by rw [ok_fit hv0]; simpa using hfit
        refine wp_flat_none (aD := ?aDaf) (S := fun w' => Below W6.heap.size W6 w') (vs := [(0, .agg (Nw (nu (powL (mulL u (invL v)) eR1))).toArray), (1, .agg (Nw (nu (powL (mulL u (invL v)) eR1))).toArray), (2, .agg (Nw (nu (mulL (powL (mulL u (invL v)) eR1) (powL (mulL u (invL v)) eR1)))).toArray), (3, .agg (Nw (nu (mulL u (invL v)))).toArray), (4, .bool true)]) (by kernel_rfl) ((Below.refl _ _).drew) (fun _ _ h k => S_trans h k) ?hDaf ?hkaf ?haf
        case hDaf =>
          refine .step (some 49) rfl rfl (by kernel_rfl) (Gives.load_row 30 (.tmp 8) rfl (g8) rfl 30 _ (fun w' h => h86.belowAll h) Tryd.underlying30 rfl (nw_info _)) ?_
          simp only [Act.put, List.setIfInBounds_toArray, List.set_cons_zero, List.set_cons_succ]
          refine .step (some 50) rfl rfl (by kernel_rfl) (Gives.load_row 30 (.tmp 8) rfl (g8) rfl 30 _ (fun w' h => h86.belowAll h) Tryd.underlying30 rfl (nw_info _)) ?_
          simp only [Act.put, List.setIfInBounds_toArray, List.set_cons_zero, List.set_cons_succ]
          refine .step (some 51) rfl rfl (by kernel_rfl) (Gives.call (args := [.agg (Nw (nu (powL (mulL u (invL v)) eR1))).toArray, .agg (Nw (nu (powL (mulL u (invL v)) eR1))).toArray]) rfl Tryd.func32 (by kernel_rfl) (by kernel_rfl) rfl (fun w' h => mulr_nu (powL (mulL u (invL v)) eR1) (powL (mulL u (invL v)) eR1) w')) ?_
          simp only [Act.put, List.setIfInBounds_toArray, List.set_cons_zero, List.set_cons_succ]
          refine .step (some 52) rfl rfl (by kernel_rfl) (Gives.load_row 30 (.tmp 6) rfl (gq) rfl 30 _ (fun w' h => hq6.belowAll h) Tryd.underlying30 rfl (nw_info _)) ?_
          simp only [Act.put, List.setIfInBounds_toArray, List.set_cons_zero, List.set_cons_succ]
          refine .step (some 53) rfl rfl (by kernel_rfl) (Gives.binop .neq 30 30 (.tmp 51) (.tmp 52) rfl (.agg (Nw (nu (mulL (powL (mulL u (invL v)) eR1) (powL (mulL u (invL v)) eR1)))).toArray) (.agg (Nw (nu (mulL u (invL v)))).toArray) _ rfl rfl (fun w' => ngrd _ _ _ _ _ w') (fun w' => nne_f hft w')) ?_
          simp only [Act.put, List.setIfInBounds_toArray, List.set_cons_zero, List.set_cons_succ]
          exact .nil
        case hkaf => kernel_rfl
        case haf =>
        intro W8 hb8
        have hz8 := hz6.belowAll hb8
        have h88 := h86.belowAll hb8
        have hw8 := hw6.trans (hb8.mono hw6.size)
        have HZ8 := Lib.hid hz8
        have HW8 := Lib.hid hw8
        have HN0 := Lib.hid (root_no hrk)
        have HRK := Lib.hid hrk
        have hgot := setRow_heap W8 (w.heap.size + 1 + 1) _ (Nw 0).toArray _ _ hz8
        have HGOT := Lib.hid hgot
        clear hz8 h88 hw8 hb8 hft hfit hrk hgot hz6 hq6 h86 hw6 HE
        go_wp2_with (first
          | (refine wpList_build0 rfl 30 rfl _ (nw_build _) ?_)
          | (refine wpList_store_row rfl 30 (.tmp 4) (.tmp 54) rfl (w.heap.size + 1 + 1) _ rfl rfl 30 _ HZ8.out (nw_info _) (Nw_sz _ _) (Nw_one _) ?_))
        refine bodyPost_ret (results_row_slot (by rfl) _ _ (w.heap.size + 1 + 1) _ _ _ _ (.bool false) (by rfl) HGOT.out Tryd.underlying30 rfl (nw_info _) (by rfl)) rfl ?_
        exact ⟨by rw [HN0.out, HRK.out], below_setRow HW8.out (by omega) _⟩
  
    · have hft1 := (sq_fit (u := u) hv0 hc).trans ((Bool.not_eq_true _).mp hf1)
      have hR2k : (mulL (powL (mulL u (invL v)) eR1) (powL (smL 2) eH)).ok := mulL_ok hRk (powL_ok (smL_ok (by decide)) _)
      have HE : nu (mulL (powL (mulL u (invL v)) eR1) (powL (smL 2) eH)) = nu (root1 u v) := by unfold root1; rw [if_neg hf1, nu_mulP, nu_mulP, hc, nu_h]
      have hm := fun wx => minus_ref pp 1 pp_W8 (by decide) wx
      rw [dif8_sub (by decide), decide_eq_false (by decide)] at hm
      have HM := Lib.hid hm
      clear hm
      refine wp_flat_none (aD := ?aD7f) (S := fun w' => Below W5.heap.size W5 w') (vs := [(0, .agg (Nw (nu (powL (mulL u (invL v)) eR1))).toArray), (1, .agg (Nw (nu (powL (mulL u (invL v)) eR1))).toArray), (2, .agg (Nw (nu (mulL (powL (mulL u (invL v)) eR1) (powL (mulL u (invL v)) eR1)))).toArray), (3, .agg (Nw (nu (mulL u (invL v)))).toArray), (4, .bool true)]) (by kernel_rfl) ((Below.refl _ _).drew) (fun _ _ h k => S_trans h k) ?hD7f ?hk7f ?h7f
      case hD7f =>
        refine .step (some 30) rfl rfl (by kernel_rfl) (Gives.load_row 30 (.tmp 8) rfl (g8) rfl 30 _ (fun w' h => h85.belowAll h) Tryd.underlying30 rfl (nw_info _)) ?_
        simp only [Act.put, List.setIfInBounds_toArray, List.set_cons_zero, List.set_cons_succ]
        refine .step (some 31) rfl rfl (by kernel_rfl) (Gives.load_row 30 (.tmp 8) rfl (g8) rfl 30 _ (fun w' h => h85.belowAll h) Tryd.underlying30 rfl (nw_info _)) ?_
        simp only [Act.put, List.setIfInBounds_toArray, List.set_cons_zero, List.set_cons_succ]
        refine .step (some 32) rfl rfl (by kernel_rfl) (Gives.call (args := [.agg (Nw (nu (powL (mulL u (invL v)) eR1))).toArray, .agg (Nw (nu (powL (mulL u (invL v)) eR1))).toArray]) rfl Tryd.func32 (by kernel_rfl) (by kernel_rfl) rfl (fun w' h => mulr_nu (powL (mulL u (invL v)) eR1) (powL (mulL u (invL v)) eR1) w')) ?_
        simp only [Act.put, List.setIfInBounds_toArray, List.set_cons_zero, List.set_cons_succ]
        refine .step (some 33) rfl rfl (by kernel_rfl) (Gives.load_row 30 (.tmp 6) rfl (gq) rfl 30 _ (fun w' h => hq5.belowAll h) Tryd.underlying30 rfl (nw_info _)) ?_
        simp only [Act.put, List.setIfInBounds_toArray, List.set_cons_zero, List.set_cons_succ]
        refine .step (some 34) rfl rfl (by kernel_rfl) (Gives.binop .neq 30 30 (.tmp 32) (.tmp 33) rfl (.agg (Nw (nu (mulL (powL (mulL u (invL v)) eR1) (powL (mulL u (invL v)) eR1)))).toArray) (.agg (Nw (nu (mulL u (invL v)))).toArray) _ rfl rfl (fun w' => ngrd _ _ _ _ _ w') (fun w' => nne_f hft1 w')) ?_
        simp only [Act.put, List.setIfInBounds_toArray, List.set_cons_zero, List.set_cons_succ]
        exact .nil
      case hk7f => kernel_rfl
      case h7f =>
      intro W6 hb6
      have hq6 := hq5.belowAll hb6
      have hz6 := hz5.belowAll hb6
      have h86 := h85.belowAll hb6
      have hw6 := hw5.trans (hb6.mono hw5.size)
      have HHE := Lib.hid HE
      have HV0 := Lib.hid hv0
      clear hq5 hz5 h85 hw5 hb6 hft1 hf1 hc HE hv0
      go_wp2_with fail
      refine (P_any _).mono ?_
      rintro e7 W7 ⟨rfl, hb7⟩
      go_wp2_with fail
      refine (smallr_ref 1 (by decide) _).mono ?_
      rintro e8 W8 ⟨rfl, hb8⟩
      go_wp2_with fail
      refine (HM.out _).mono ?_
      rintro e9 W9 ⟨rfl, hb9⟩
      have hb67 := (hb7.trans (hb8.mono hb7.size)).trans (hb9.mono (hb7.trans (hb8.mono hb7.size)).size)
      have hq9 := hq6.belowAll hb67
      have hz9 := hz6.belowAll hb67
      have h89 := h86.belowAll hb67
      have hw9 := hw6.trans (hb67.mono hw6.size)
      have l1 := hq9.lt
      have l2 := hz9.lt
      have l3 := h89.lt
      have e10 := nw_zero_row W9
      have h910 := e10.setRow (Nw (pp - 1))
      have hq10 := (hq9.alloc (.cells #[.int .u32 0, .int .u32 0, .int .u32 0, .int .u32 0, .int .u32 0, .int .u32 0, .int .u32 0, .int .u32 0] 30)).setRowOther (k := W9.heap.size) (by omega) (Nw (pp - 1)).toArray
      have hz10 := (hz9.alloc (.cells #[.int .u32 0, .int .u32 0, .int .u32 0, .int .u32 0, .int .u32 0, .int .u32 0, .int .u32 0, .int .u32 0] 30)).setRowOther (k := W9.heap.size) (by omega) (Nw (pp - 1)).toArray
      have h810 := (h89.alloc (.cells #[.int .u32 0, .int .u32 0, .int .u32 0, .int .u32 0, .int .u32 0, .int .u32 0, .int .u32 0, .int .u32 0] 30)).setRowOther (k := W9.heap.size) (by omega) (Nw (pp - 1)).toArray
      have hw10 := below_setRow (g := W9.heap.size) (hw9.alloc hw9.size (.cells #[.int .u32 0, .int .u32 0, .int .u32 0, .int .u32 0, .int .u32 0, .int .u32 0, .int .u32 0, .int .u32 0] 30)) hw9.size (Nw (pp - 1)).toArray
      have E10 := Lib.hid e10
      have H910 := Lib.hid h910
      have HQ10 := Lib.hid hq10
      have HZ10 := Lib.hid hz10
      have H810 := Lib.hid h810
      have HW10 := Lib.hid hw10
      clear hb7 hb8 hb9 hb67 hq6 hz6 h86 hw6 hq9 hz9 h89 hw9 e10 h910 hq10 hz10 h810 hw10 l1 l2 l3
      go_wp2_with (refine wpList_store_row rfl 30 (.tmp 9) (.tmp 39) rfl (W9.heap.size) _ rfl rfl 30 _ E10.out (nw_info _) (Nw_sz _ _) (Nw_one _) ?_)
      have h910 := H910.out
      have hq10 := HQ10.out
      have hz10 := HZ10.out
      have h810 := H810.out
      have hw10 := HW10.out
      clear E10 H910 HQ10 HZ10 H810 HW10
      generalize (W9.alloc (.cells #[.int .u32 0, .int .u32 0, .int .u32 0, .int .u32 0, .int .u32 0, .int .u32 0, .int .u32 0, .int .u32 0] 30)).setRow W9.heap.size (Nw (pp - 1)).toArray = W10 at *
      refine wp_vars_one (aD := ?aD9) (B := W10.heap.size) (S := fun w' => Below W10.heap.size W10 w') (k1 := 5) (s1 := 6) (T1 := 30) (L1 := 30) (z1 := Nw 0) (c1 := Nw (nu (powL (smL 2) eH))) (x1 := .tmp 11) (y1 := .tmp 45)
        (vs := [(0, .agg (Nw (nu (smL 2))).toArray), (1, .agg (Nw (pp - 1)).toArray), (2, .agg (Nw eH).toArray), (3, .agg (By eH 32).toArray), (4, .agg (Nw (nu (powL (smL 2) eH))).toArray)]) (by kernel_rfl) ((Below.refl _ _).drew) (fun _ _ h k => S_trans h k) (fun _ _ _ h hg => S_row h hg _) (fun _ h => h.size) ?hD9 (.of rfl rfl rfl (fun w' => nw_alloc w')) ?hk9 rfl rfl (some 11) rfl rfl rfl ?e9 ?f9 (nw_info _) (Nw_sz _ _) (Nw_one _) ?h9
      case hD9 =>
        refine .step (some 41) rfl rfl (by kernel_rfl) (Gives.call (args := [.int .u32 2]) rfl Tryd.func39 (by kernel_rfl) (by kernel_rfl) rfl (fun w' h => smallr_nu 2 (by decide) w')) ?_
        simp only [Act.put, List.setIfInBounds_toArray, List.set_cons_zero, List.set_cons_succ]
        refine .step (some 42) rfl rfl (by kernel_rfl) (Gives.load_row 30 (.tmp 9) rfl (W9.heap.size) rfl 30 _ (fun w' h => h910.belowAll h) Tryd.underlying30 rfl (nw_info _)) ?_
        simp only [Act.put, List.setIfInBounds_toArray, List.set_cons_zero, List.set_cons_succ]
        refine .step (some 43) rfl rfl (by kernel_rfl) (Gives.call (args := [.agg (Nw (pp - 1)).toArray, .int .i64 2]) rfl Tryd.func76 (by kernel_rfl) (by kernel_rfl) rfl (fun w' h => shift_p1 w')) ?_
        simp only [Act.put, List.setIfInBounds_toArray, List.set_cons_zero, List.set_cons_succ]
        refine .step (some 44) rfl rfl (by kernel_rfl) (Gives.call (args := [.agg (Nw eH).toArray]) rfl Tryd.func17 (by kernel_rfl) (by kernel_rfl) rfl (fun w' h => rbytes_ref eH w')) ?_
        simp only [Act.put, List.setIfInBounds_toArray, List.set_cons_zero, List.set_cons_succ]
        refine .step (some 45) rfl rfl (by kernel_rfl) (Gives.call (args := [.agg (Nw (nu (smL 2))).toArray, .agg (By eH 32).toArray]) rfl Tryd.func37 (by kernel_rfl) (by kernel_rfl) rfl (fun w' h => powr_nu (smL 2) (by decide) w')) ?_
        simp only [Act.put, List.setIfInBounds_toArray, List.set_cons_zero, List.set_cons_succ]
        exact .nil
      case hk9 => kernel_rfl
      case e9 => exact fun p => rfl
      case f9 => exact fun p => rfl
      case h9 =>
      intro g11 W11 hb11 hg11 h1111
      have hq11 := hq10.belowAll hb11
      have hz11 := hz10.belowAll hb11
      have h811 := h810.belowAll hb11
      have hw11 := hw10.trans (hb11.mono hw10.size)
      have HQ11 := Lib.hid hq11
      have HZ11 := Lib.hid hz11
      have H811 := Lib.hid h811
      have H1111 := Lib.hid h1111
      have HW11 := Lib.hid hw11
      clear h910 hq10 hz10 h810 hw10 hb11 hg11 hq11 hz11 h811 h1111 hw11
      go_wp2_with (first
        | (refine wpList_load_row rfl 30 (.tmp 8) rfl (g8) rfl 30 _ (0, 0) _ H811.out Tryd.underlying30 rfl (nw_info _) ?_)
        | (refine wpList_load_row rfl 30 (.tmp 11) rfl (g11) rfl 30 _ (0, 0) _ H1111.out Tryd.underlying30 rfl (nw_info _) ?_))
      refine (mulr_nu (powL (mulL u (invL v)) eR1) (powL (smL 2) eH) _).mono ?_
      rintro e12 W12 ⟨rfl, hb12⟩
      have hq12 := (HQ11.out.belowAll hb12).setRowOther (k := g8) HNQ.out (Nw (nu (mulL (powL (mulL u (invL v)) eR1) (powL (smL 2) eH)))).toArray
      have hz12 := (HZ11.out.belowAll hb12).setRowOther (k := g8) HNE.out (Nw (nu (mulL (powL (mulL u (invL v)) eR1) (powL (smL 2) eH)))).toArray
      have h812 := H811.out.belowAll hb12
      have h813 := h812.setRow (Nw (nu (mulL (powL (mulL u (invL v)) eR1) (powL (smL 2) eH))))
      have hw12 := below_setRow (g := g8) (HW11.out.trans (hb12.mono HW11.out.size)) HGE.out (Nw (nu (mulL (powL (mulL u (invL v)) eR1) (powL (smL 2) eH)))).toArray
      have HQ12 := Lib.hid hq12
      have HZ12 := Lib.hid hz12
      have H812 := Lib.hid h812
      have H813 := Lib.hid h813
      have HW12 := Lib.hid hw12
      clear hq12 hz12 h812 h813 hw12 hb12 HQ11 HZ11 H811 H1111 HW11
      go_wp2_with (refine wpList_store_row rfl 30 (.tmp 8) (.tmp 48) rfl (g8) _ rfl rfl 30 _ H812.out (nw_info _) (Nw_sz _ _) (Nw_one _) ?_)
      have hq13 := HQ12.out
      have hz13 := HZ12.out
      have h813 := H813.out
      have hw13 := HW12.out
      have hv0 := HV0.out
      have HE := HHE.out
      clear HQ12 HZ12 H812 H813 HW12
      generalize W12.setRow g8 (Nw (nu (mulL (powL (mulL u (invL v)) eR1) (powL (smL 2) eH)))).toArray = W13 at *
      by_cases hfit : fitB (root1 u v) u v = true
      · have hft := (sq_fit (u := u) hv0 HE).trans hfit
        have hrk : rootOk u v = true := by rw [ok_fit hv0]; exact hfit
        refine wp_flat_none (aD := ?aDbt) (S := fun w' => Below W13.heap.size W13 w') (vs := [(0, .agg (Nw (nu (mulL (powL (mulL u (invL v)) eR1) (powL (smL 2) eH)))).toArray), (1, .agg (Nw (nu (mulL (powL (mulL u (invL v)) eR1) (powL (smL 2) eH)))).toArray), (2, .agg (Nw (nu (mulL (mulL (powL (mulL u (invL v)) eR1) (powL (smL 2) eH)) (mulL (powL (mulL u (invL v)) eR1) (powL (smL 2) eH))))).toArray), (3, .agg (Nw (nu (mulL u (invL v)))).toArray), (4, .bool false)]) (by kernel_rfl) ((Below.refl _ _).drew) (fun _ _ h k => S_trans h k) ?hDbt ?hkbt ?hbt
        case hDbt =>
          refine .step (some 49) rfl rfl (by kernel_rfl) (Gives.load_row 30 (.tmp 8) rfl (g8) rfl 30 _ (fun w' h => h813.belowAll h) Tryd.underlying30 rfl (nw_info _)) ?_
          simp only [Act.put, List.setIfInBounds_toArray, List.set_cons_zero, List.set_cons_succ]
          refine .step (some 50) rfl rfl (by kernel_rfl) (Gives.load_row 30 (.tmp 8) rfl (g8) rfl 30 _ (fun w' h => h813.belowAll h) Tryd.underlying30 rfl (nw_info _)) ?_
          simp only [Act.put, List.setIfInBounds_toArray, List.set_cons_zero, List.set_cons_succ]
          refine .step (some 51) rfl rfl (by kernel_rfl) (Gives.call (args := [.agg (Nw (nu (mulL (powL (mulL u (invL v)) eR1) (powL (smL 2) eH)))).toArray, .agg (Nw (nu (mulL (powL (mulL u (invL v)) eR1) (powL (smL 2) eH)))).toArray]) rfl Tryd.func32 (by kernel_rfl) (by kernel_rfl) rfl (fun w' h => mulr_nu (mulL (powL (mulL u (invL v)) eR1) (powL (smL 2) eH)) (mulL (powL (mulL u (invL v)) eR1) (powL (smL 2) eH)) w')) ?_
          simp only [Act.put, List.setIfInBounds_toArray, List.set_cons_zero, List.set_cons_succ]
          refine .step (some 52) rfl rfl (by kernel_rfl) (Gives.load_row 30 (.tmp 6) rfl (gq) rfl 30 _ (fun w' h => hq13.belowAll h) Tryd.underlying30 rfl (nw_info _)) ?_
          simp only [Act.put, List.setIfInBounds_toArray, List.set_cons_zero, List.set_cons_succ]
          refine .step (some 53) rfl rfl (by kernel_rfl) (Gives.binop .neq 30 30 (.tmp 51) (.tmp 52) rfl (.agg (Nw (nu (mulL (mulL (powL (mulL u (invL v)) eR1) (powL (smL 2) eH)) (mulL (powL (mulL u (invL v)) eR1) (powL (smL 2) eH))))).toArray) (.agg (Nw (nu (mulL u (invL v)))).toArray) _ rfl rfl (fun w' => ngrd _ _ _ _ _ w') (fun w' => nne_t hft w')) ?_
          simp only [Act.put, List.setIfInBounds_toArray, List.set_cons_zero, List.set_cons_succ]
          exact .nil
        case hkbt => kernel_rfl
        case hbt =>
        intro W8 hb8
        have hz8 := hz13.belowAll hb8
        have h88 := h813.belowAll hb8
        have hw8 := hw13.trans (hb8.mono hw13.size)
        have hyes := root_yes hu hv hR2k hrk HE
        have hne8 := HNE.out
        by_cases hodd : nu (mulL (powL (mulL u (invL v)) eR1) (powL (smL 2) eH)) % 2 = 1
        · rw [if_pos hodd] at hyes
          have hod := decide_eq_true hodd
          have HOD := Lib.hid (fun wx => oddr_is hod wx)
          have HYES := Lib.hid hyes
          have HRK := Lib.hid hrk
          have HNG := Lib.hid (fun wx => negr_nu hR2k wx)
          have HZ8 := Lib.hid hz8
          have H88 := Lib.hid h88
          have HW8 := Lib.hid hw8
          clear hz8 h88 hw8 hb8 hft hfit hrk hyes hodd hod hz13 hq13 h813 hw13 HE hne8
          go_wp2_with (first
            | (refine wpList_load_row rfl 30 (.tmp 8) rfl (g8) rfl 30 _ (0, 0) _ H88.out Tryd.underlying30 rfl (nw_info _) ?_))
          refine (HOD.out _).mono ?_
          rintro e9 w9 ⟨rfl, hb9⟩
          have hz9 := HZ8.out.belowAll hb9
          have h89 := H88.out.belowAll hb9
          have hw9 := HW8.out.trans (hb9.mono HW8.out.size)
          have HZ9 := Lib.hid hz9
          have H89 := Lib.hid h89
          have HW9 := Lib.hid hw9
          clear hz9 h89 hw9 hb9 HZ8 H88 HW8
          go_wp2_with (first
            | (refine wpList_build0 rfl 30 rfl _ (nw_build _) ?_)
            | (refine wpList_load_row rfl 30 (.tmp 8) rfl (g8) rfl 30 _ (0, 0) _ H89.out Tryd.underlying30 rfl (nw_info _) ?_))
          refine (HNG.out _).mono ?_
          rintro e10 w10 ⟨rfl, hb10⟩
          have hz10 := HZ9.out.belowAll hb10
          have h810 := H89.out.belowAll hb10
          have hw10 := HW9.out.trans (hb10.mono HW9.out.size)
          have h811 := h810.setRow (Nw (nu (negL (mulL (powL (mulL u (invL v)) eR1) (powL (smL 2) eH)))))
          have hz11 := hz10.setRowOther (k := g8) HNE.out (Nw (nu (negL (mulL (powL (mulL u (invL v)) eR1) (powL (smL 2) eH))))).toArray
          have hw11 := below_setRow (g := g8) hw10 HGE.out (Nw (nu (negL (mulL (powL (mulL u (invL v)) eR1) (powL (smL 2) eH))))).toArray
          have hgot := setRow_heap _ (w.heap.size + 1 + 1) _ (Nw (nu (negL (mulL (powL (mulL u (invL v)) eR1) (powL (smL 2) eH))))).toArray _ _ hz11
          have HGOT := Lib.hid hgot
          have H810 := Lib.hid h810
          have H811 := Lib.hid h811
          have HZ11 := Lib.hid hz11
          have HW11 := Lib.hid hw11
          clear hz10 h810 hw10 h811 hz11 hw11 hb10 hgot
          go_wp2_with (first
            | (refine wpList_store_row rfl 30 (.tmp 8) (.tmp 59) rfl (g8) _ rfl rfl 30 _ H810.out (nw_info _) (Nw_sz _ _) (Nw_one _) ?_)
            | (refine wpList_load_row rfl 30 (.tmp 8) rfl (g8) rfl 30 _ (0, 0) _ H811.out Tryd.underlying30 rfl (nw_info _) ?_)
            | (refine wpList_store_row rfl 30 (.tmp 4) (.tmp 60) rfl (w.heap.size + 1 + 1) _ rfl rfl 30 _ HZ11.out (nw_info _) (Nw_sz _ _) (Nw_one _) ?_))
          refine bodyPost_ret (results_row_slot (by rfl) _ _ (w.heap.size + 1 + 1) _ _ _ _ (.bool true) (by rfl) HGOT.out Tryd.underlying30 rfl (nw_info _) (by rfl)) rfl ?_
          exact ⟨by rw [HYES.out, HRK.out], below_setRow HW11.out (by omega) _⟩
        · rw [if_neg hodd] at hyes
          have hod := decide_eq_false hodd
          have HOD := Lib.hid (fun wx => oddr_is hod wx)
          have HYES := Lib.hid hyes
          have HRK := Lib.hid hrk
          have HZ8 := Lib.hid hz8
          have H88 := Lib.hid h88
          have HW8 := Lib.hid hw8
          clear hz8 h88 hw8 hb8 hft hfit hrk hyes hodd hod hz13 hq13 h813 hw13 HE hne8
          go_wp2_with (first
            | (refine wpList_load_row rfl 30 (.tmp 8) rfl (g8) rfl 30 _ (0, 0) _ H88.out Tryd.underlying30 rfl (nw_info _) ?_))
          refine (HOD.out _).mono ?_
          rintro e9 w9 ⟨rfl, hb9⟩
          have hz9 := HZ8.out.belowAll hb9
          have h89 := H88.out.belowAll hb9
          have hw9 := HW8.out.trans (hb9.mono HW8.out.size)
          have hgot := setRow_heap _ (w.heap.size + 1 + 1) _ (Nw (nu (mulL (powL (mulL u (invL v)) eR1) (powL (smL 2) eH)))).toArray _ _ hz9
          have HGOT := Lib.hid hgot
          have HZ9 := Lib.hid hz9
          have H89 := Lib.hid h89
          have HW9 := Lib.hid hw9
          clear hz9 h89 hw9 hb9 HZ8 H88 HW8 hgot
          go_wp2_with (first
            | (refine wpList_load_row rfl 30 (.tmp 8) rfl (g8) rfl 30 _ (0, 0) _ H89.out Tryd.underlying30 rfl (nw_info _) ?_)
            | (refine wpList_store_row rfl 30 (.tmp 4) (.tmp 60) rfl (w.heap.size + 1 + 1) _ rfl rfl 30 _ HZ9.out (nw_info _) (Nw_sz _ _) (Nw_one _) ?_))
          refine bodyPost_ret (results_row_slot (by rfl) _ _ (w.heap.size + 1 + 1) _ _ _ _ (.bool true) (by rfl) HGOT.out Tryd.underlying30 rfl (nw_info _) (by rfl)) rfl ?_
          exact ⟨by rw [HYES.out, HRK.out], below_setRow HW9.out (by omega) _⟩
  
      · have hft := (sq_fit (u := u) hv0 HE).trans ((Bool.not_eq_true _).mp hfit)
        have hrk : rootOk u v = false := by rw [ok_fit hv0]; simpa using hfit
        refine wp_flat_none (aD := ?aDbf) (S := fun w' => Below W13.heap.size W13 w') (vs := [(0, .agg (Nw (nu (mulL (powL (mulL u (invL v)) eR1) (powL (smL 2) eH)))).toArray), (1, .agg (Nw (nu (mulL (powL (mulL u (invL v)) eR1) (powL (smL 2) eH)))).toArray), (2, .agg (Nw (nu (mulL (mulL (powL (mulL u (invL v)) eR1) (powL (smL 2) eH)) (mulL (powL (mulL u (invL v)) eR1) (powL (smL 2) eH))))).toArray), (3, .agg (Nw (nu (mulL u (invL v)))).toArray), (4, .bool true)]) (by kernel_rfl) ((Below.refl _ _).drew) (fun _ _ h k => S_trans h k) ?hDbf ?hkbf ?hbf
        case hDbf =>
          refine .step (some 49) rfl rfl (by kernel_rfl) (Gives.load_row 30 (.tmp 8) rfl (g8) rfl 30 _ (fun w' h => h813.belowAll h) Tryd.underlying30 rfl (nw_info _)) ?_
          simp only [Act.put, List.setIfInBounds_toArray, List.set_cons_zero, List.set_cons_succ]
          refine .step (some 50) rfl rfl (by kernel_rfl) (Gives.load_row 30 (.tmp 8) rfl (g8) rfl 30 _ (fun w' h => h813.belowAll h) Tryd.underlying30 rfl (nw_info _)) ?_
          simp only [Act.put, List.setIfInBounds_toArray, List.set_cons_zero, List.set_cons_succ]
          refine .step (some 51) rfl rfl (by kernel_rfl) (Gives.call (args := [.agg (Nw (nu (mulL (powL (mulL u (invL v)) eR1) (powL (smL 2) eH)))).toArray, .agg (Nw (nu (mulL (powL (mulL u (invL v)) eR1) (powL (smL 2) eH)))).toArray]) rfl Tryd.func32 (by kernel_rfl) (by kernel_rfl) rfl (fun w' h => mulr_nu (mulL (powL (mulL u (invL v)) eR1) (powL (smL 2) eH)) (mulL (powL (mulL u (invL v)) eR1) (powL (smL 2) eH)) w')) ?_
          simp only [Act.put, List.setIfInBounds_toArray, List.set_cons_zero, List.set_cons_succ]
          refine .step (some 52) rfl rfl (by kernel_rfl) (Gives.load_row 30 (.tmp 6) rfl (gq) rfl 30 _ (fun w' h => hq13.belowAll h) Tryd.underlying30 rfl (nw_info _)) ?_
          simp only [Act.put, List.setIfInBounds_toArray, List.set_cons_zero, List.set_cons_succ]
          refine .step (some 53) rfl rfl (by kernel_rfl) (Gives.binop .neq 30 30 (.tmp 51) (.tmp 52) rfl (.agg (Nw (nu (mulL (mulL (powL (mulL u (invL v)) eR1) (powL (smL 2) eH)) (mulL (powL (mulL u (invL v)) eR1) (powL (smL 2) eH))))).toArray) (.agg (Nw (nu (mulL u (invL v)))).toArray) _ rfl rfl (fun w' => ngrd _ _ _ _ _ w') (fun w' => nne_f hft w')) ?_
          simp only [Act.put, List.setIfInBounds_toArray, List.set_cons_zero, List.set_cons_succ]
          exact .nil
        case hkbf => kernel_rfl
        case hbf =>
        intro W8 hb8
        have hz8 := hz13.belowAll hb8
        have h88 := h813.belowAll hb8
        have hw8 := hw13.trans (hb8.mono hw13.size)
        have HZ8 := Lib.hid hz8
        have HW8 := Lib.hid hw8
        have HN0 := Lib.hid (root_no hrk)
        have HRK := Lib.hid hrk
        have hgot := setRow_heap W8 (w.heap.size + 1 + 1) _ (Nw 0).toArray _ _ hz8
        have HGOT := Lib.hid hgot
        clear hz8 h88 hw8 hb8 hft hfit hrk hgot hz13 hq13 h813 hw13 HE
        go_wp2_with (first
          | (refine wpList_build0 rfl 30 rfl _ (nw_build _) ?_)
          | (refine wpList_store_row rfl 30 (.tmp 4) (.tmp 54) rfl (w.heap.size + 1 + 1) _ rfl rfl 30 _ HZ8.out (nw_info _) (Nw_sz _ _) (Nw_one _) ?_))
        refine bodyPost_ret (results_row_slot (by rfl) _ _ (w.heap.size + 1 + 1) _ _ _ _ (.bool false) (by rfl) HGOT.out Tryd.underlying30 rfl (nw_info _) (by rfl)) rfl ?_
        exact ⟨by rw [HN0.out, HRK.out], below_setRow HW8.out (by omega) _⟩
  

end Go.Proofs.YthpbipebpaeagaaDoor
