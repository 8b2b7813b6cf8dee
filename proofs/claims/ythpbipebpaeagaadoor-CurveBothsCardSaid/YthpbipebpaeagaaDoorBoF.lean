/- The statement CurveBoths: the walk. -/
import Derived.Test.YthpbipebpaeagaaDoorRb
namespace Go.Proofs.YthpbipebpaeagaaDoor
set_option maxRecDepth 100000
set_option linter.unusedSimpArgs false
set_option linter.unusedVariables false
open Go.RowKit

theorem rl_alloc (w : World) : (Instr.alloc 62 true (.tuple #[])).run Tryd.prog w = .ok (.pointer (some ⟨w.heap.size, 0, none⟩)) (w.alloc (.cells (RL zeR).toArray 62)) := by
  rw [← z24]
  kernel_rfl

set_option maxHeartbeats 12800000 in
theorem boths_law (A N M : Nat) (hN : N < 256 ^ 32) (hM : M < 256 ^ 32) (w : World) (hq : Gc w) :
    Calls Tryd.prog 12 #[.agg (By A 32).toArray, .agg (By N 32).toArray, .agg (By M 32).toArray] w fun e w' => e = .returned (.bool true) ∧ Below w.heap.size w w' := by
  have hde := fun wx hq => de_any A wx hq
  have hra := fun h wx => dr_x (N := A) h wx
  have hia := fun h => is_dec (N := A) h
  have hir := fun h => decR_ir (N := A) h
  have hP : (decPt A).ok := decPt_ok A
  have hx : (decR A).ok := decR_ok A
  generalize decOk A = oa at *
  generalize decPt A = P at *
  generalize dcA A = PA at *
  generalize decR A = x at *
  have HDE := Lib.hid hde
  have HRA := Lib.hid hra
  have HIA := Lib.hid hia
  have HIR := Lib.hid hir
  have HN := Lib.hid hN
  have HM := Lib.hid hM
  have hb0 := ((Row.new w (By A 32) 22).alloc (.cells (By N 32).toArray 22)).alloc (.cells (By M 32).toArray 22)
  have hb1 := (Row.new1 w (.cells (By A 32).toArray 22) (By N 32) 22).alloc (.cells (By M 32).toArray 22)
  have hb2 := Row.new2 w (.cells (By A 32).toArray 22) (.cells (By N 32).toArray 22) (By M 32) 22
  have hw := Below.alloc3 w (.cells (By A 32).toArray 22) (.cells (By N 32).toArray 22) (.cells (By M 32).toArray 22)
  have HL0 := Lib.hid hb0
  clear hde hra hia hir hN hM
  go_enter Tryd.func12, Tryd.ntmps12
  go_wp2_with (refine wpList_load_row rfl 22 (.tmp 3) rfl w.heap.size rfl 22 _ (0, 0) _ HL0.out Tryd.underlying22 rfl (by_info _) ?_)
  clear HL0
  refine (HDE.out _ (hq.belowAll hw)).mono ?_
  rintro e W1 ⟨rfl, hb⟩
  replace hb0 := hb0.belowAll hb
  replace hb1 := hb1.belowAll hb
  replace hb2 := hb2.belowAll hb
  replace hw := hw.trans (hb.mono hw.size)
  clear hb
  have l_hb0 := hb0.lt
  have l_hb1 := hb1.lt
  have l_hb2 := hb2.lt
  have e_ := Row.new W1 (PL zeP) 58
  have h7 := e_.setRow (PL P)
  replace hb0 := (hb0.alloc (.cells (PL zeP).toArray 58)).setRowOther (k := W1.heap.size) (by omega) (PL P).toArray
  replace hb1 := (hb1.alloc (.cells (PL zeP).toArray 58)).setRowOther (k := W1.heap.size) (by omega) (PL P).toArray
  replace hb2 := (hb2.alloc (.cells (PL zeP).toArray 58)).setRowOther (k := W1.heap.size) (by omega) (PL P).toArray
  have hsz := hw.size
  replace hw := below_setRow (g := W1.heap.size) (hw.alloc hw.size (.cells (PL zeP).toArray 58)) hw.size (PL P).toArray
  have E_ := Lib.hid e_
  have H_hb0 := Lib.hid hb0
  clear e_ hsz l_hb0 l_hb1 l_hb2
  cases oa
  · skip
    go_wp2_with (first
        | (refine wpList_store_row rfl 58 (.tmp 7) (.tmp 16) rfl W1.heap.size _ rfl rfl 58 _ E_.out (pl_info _) (PL_sz _ _) (PL_one _) ?_)
        | (refine wpList_load_row rfl 22 (.tmp 3) rfl (w.heap.size) rfl 22 _ (0, 0) _ H_hb0.out Tryd.underlying22 rfl (by_info _) ?_))
    clear E_ H_hb0
    rw [z20]
    generalize (W1.alloc (.cells (PL zeP).toArray 58)).setRow W1.heap.size (PL P).toArray = V1 at *
    generalize W1.heap.size = g7 at *
    refine (awake6 _ (hq.belowAll hw)).mono ?_
    rintro e W9 ⟨rfl, hb⟩
    replace hw := hw.trans (hb.mono hw.size)
    clear hb
    go_wp2_with fail
    go_ret
    exact ⟨rfl, hw⟩
  · skip
    go_wp2_with (first
        | (refine wpList_store_row rfl 58 (.tmp 7) (.tmp 16) rfl W1.heap.size _ rfl rfl 58 _ E_.out (pl_info _) (PL_sz _ _) (PL_one _) ?_)
        | (refine wpList_load_row rfl 22 (.tmp 3) rfl (w.heap.size) rfl 22 _ (0, 0) _ H_hb0.out Tryd.underlying22 rfl (by_info _) ?_))
    clear E_ H_hb0
    rw [z20]
    generalize (W1.alloc (.cells (PL zeP).toArray 58)).setRow W1.heap.size (PL P).toArray = V1 at *
    generalize W1.heap.size = g7 at *
    refine (HRA.out trivial _).mono ?_
    rintro e W3 ⟨rfl, hb⟩
    replace hb0 := hb0.belowAll hb
    replace hb1 := hb1.belowAll hb
    replace hb2 := hb2.belowAll hb
    replace h7 := h7.belowAll hb
    replace hw := hw.trans (hb.mono hw.size)
    clear hb
    have l_hb0 := hb0.lt
    have l_hb1 := hb1.lt
    have l_hb2 := hb2.lt
    have l_h7 := h7.lt
    have e_ := rl_zero_row W3
    have h9 := e_.setRow (RL x)
    replace hb0 := (hb0.alloc (.cells #[.int .u32 0, .int .u32 0, .int .u32 0, .int .u32 0, .int .u32 0, .int .u32 0, .int .u32 0, .int .u32 0, .int .u32 0, .int .u32 0, .int .u32 0, .int .u32 0, .int .u32 0, .int .u32 0, .int .u32 0, .int .u32 0, .int .u32 0, .int .u32 0, .int .u32 0, .int .u32 0, .int .u32 0, .int .u32 0, .int .u32 0, .int .u32 0] 62)).setRowOther (k := W3.heap.size) (by omega) (RL x).toArray
    replace hb1 := (hb1.alloc (.cells #[.int .u32 0, .int .u32 0, .int .u32 0, .int .u32 0, .int .u32 0, .int .u32 0, .int .u32 0, .int .u32 0, .int .u32 0, .int .u32 0, .int .u32 0, .int .u32 0, .int .u32 0, .int .u32 0, .int .u32 0, .int .u32 0, .int .u32 0, .int .u32 0, .int .u32 0, .int .u32 0, .int .u32 0, .int .u32 0, .int .u32 0, .int .u32 0] 62)).setRowOther (k := W3.heap.size) (by omega) (RL x).toArray
    replace hb2 := (hb2.alloc (.cells #[.int .u32 0, .int .u32 0, .int .u32 0, .int .u32 0, .int .u32 0, .int .u32 0, .int .u32 0, .int .u32 0, .int .u32 0, .int .u32 0, .int .u32 0, .int .u32 0, .int .u32 0, .int .u32 0, .int .u32 0, .int .u32 0, .int .u32 0, .int .u32 0, .int .u32 0, .int .u32 0, .int .u32 0, .int .u32 0, .int .u32 0, .int .u32 0] 62)).setRowOther (k := W3.heap.size) (by omega) (RL x).toArray
    replace h7 := (h7.alloc (.cells #[.int .u32 0, .int .u32 0, .int .u32 0, .int .u32 0, .int .u32 0, .int .u32 0, .int .u32 0, .int .u32 0, .int .u32 0, .int .u32 0, .int .u32 0, .int .u32 0, .int .u32 0, .int .u32 0, .int .u32 0, .int .u32 0, .int .u32 0, .int .u32 0, .int .u32 0, .int .u32 0, .int .u32 0, .int .u32 0, .int .u32 0, .int .u32 0] 62)).setRowOther (k := W3.heap.size) (by omega) (RL x).toArray
    have hsz := hw.size
    replace hw := below_setRow (g := W3.heap.size) (hw.alloc hw.size (.cells #[.int .u32 0, .int .u32 0, .int .u32 0, .int .u32 0, .int .u32 0, .int .u32 0, .int .u32 0, .int .u32 0, .int .u32 0, .int .u32 0, .int .u32 0, .int .u32 0, .int .u32 0, .int .u32 0, .int .u32 0, .int .u32 0, .int .u32 0, .int .u32 0, .int .u32 0, .int .u32 0, .int .u32 0, .int .u32 0, .int .u32 0, .int .u32 0] 62)) hw.size (RL x).toArray
    have E_ := Lib.hid e_
    clear e_ hsz l_hb0 l_hb1 l_hb2 l_h7
    go_wp2_with (first
        | (refine wpList_store_row rfl 62 (.tmp 9) (.tmp 24) rfl W3.heap.size _ rfl rfl 62 _ E_.out (rl_info _) (RL_sz _ _) (RL_one _) ?_))
    clear E_ 
    generalize (W3.alloc (.cells #[.int .u32 0, .int .u32 0, .int .u32 0, .int .u32 0, .int .u32 0, .int .u32 0, .int .u32 0, .int .u32 0, .int .u32 0, .int .u32 0, .int .u32 0, .int .u32 0, .int .u32 0, .int .u32 0, .int .u32 0, .int .u32 0, .int .u32 0, .int .u32 0, .int .u32 0, .int .u32 0, .int .u32 0, .int .u32 0, .int .u32 0, .int .u32 0] 62)).setRow W3.heap.size (RL x).toArray = V3 at *
    generalize W3.heap.size = g9 at *
    have iP := HIA.out trivial
    have iX := HIR.out trivial
    have hN : N < 2 ^ 256 := Nat.lt_of_lt_of_eq HN.out (by decide)
    have hM : M < 2 ^ 256 := Nat.lt_of_lt_of_eq HM.out (by decide)
    have i1 := is_mu hP hN iP
    have i2 := is_mu baP_ok hM is_ba
    have iB := is_bo hP hN hM iP
    have hL2 : ∀ s ∈ [(muP P N), (muP baP M)], s.ok := fun s hs => by
      rcases List.mem_cons.1 hs with rfl | hs
      · exact muP_ok hP N
      · rw [List.mem_singleton.1 hs]; exact muP_ok baP_ok M
    have hS2 : (suP [(muP P N), (muP baP M)]).ok := suP_ok hL2
    have hS0 : (suP []).ok := ze1_ok
    have i3 : Is (suP [(muP P N), (muP baP M)]) (adA (sm N PA) (sm M bA)) := by
      have h1 := is_ad (adP_ok ze1_ok (muP_ok hP N)) (muP_ok baP_ok M) (is_ad ze1_ok (muP_ok hP N) is_ze i1) i2
      rw [zero_ad] at h1
      exact h1
    have e1 : ptN (boP P N M) = ptR (radP (rmuP x N) (rmuP baR M) dL) := (is_told iB).trans (ir_told (ir_ad (rmO_ok N hx 256) (rmO_ok M baR_ok 256) (ir_mu hx hN iX) (ir_mu baR_ok hM baR_ir))).symm
    have e2 : sameB (suP [(muP P N), (muP baP M)]) (boP P N M) = true := by rw [is_same i3 iB]; exact decide_eq_true rfl
    have e3 : sameB (suP []) ze1 = true := same_ze
    have lt1 := hb1.lt
    have lt2 := hb2.lt
    have lt7 := h7.lt
    have lt9 := h9.lt
    clear iP iX i1 i2 i3 iB hN hM
    have lt_hb1 := hb1.lt
    have lt_hb2 := hb2.lt
    have lt_h7 := h7.lt
    have lt_h9 := h9.lt
    refine wp_vars_one (aD := ?aDq1) (B := V3.heap.size) (S := fun w' => Below V3.heap.size V3 w') (k1 := 8) (s1 := 9) (T1 := 62) (L1 := 62) (z1 := RL zeR) (c1 := RL (radP (rmuP x N) (rmuP baR M) dL)) (x1 := .tmp 11) (y1 := .tmp 33)
      (vs := [(0, .agg (RL x).toArray), (1, .agg (By N 32).toArray), (2, .agg (RL (rmuP x N)).toArray), (3, .agg (RL baR).toArray), (4, .agg (By M 32).toArray), (5, .agg (RL (rmuP baR M)).toArray), (6, .agg (Nw (nu dL)).toArray), (7, .agg (RL (radP (rmuP x N) (rmuP baR M) dL)).toArray)]) (by kernel_rfl) ((Below.refl _ _).drew) (fun _ _ h k => S_trans h k) (fun _ _ cs h hg => S_row h hg cs) (fun _ h => h.size) ?hDq1 (.of rfl rfl rfl (fun w' => rl_alloc w')) ?hkq1 rfl rfl (some 11) rfl rfl rfl ?eq11 ?fq11 (rl_info _) (RL_sz _ _) (RL_one _) ?hq1
    case hDq1 =>
      refine .step (some 26) rfl rfl (by kernel_rfl) (Gives.load_row 62 (.tmp 9) rfl (g9) rfl 62 _ (fun w' h => h9.belowAll h) Tryd.underlying62 rfl (rl_info _)) ?_
      simp only [Act.put, List.setIfInBounds_toArray, List.set_cons_zero, List.set_cons_succ]
      refine .step (some 27) rfl rfl (by kernel_rfl) (Gives.load_row 22 (.tmp 4) rfl (w.heap.size + 1) rfl 22 _ (fun w' h => hb1.belowAll h) Tryd.underlying22 rfl (by_info _)) ?_
      simp only [Act.put, List.setIfInBounds_toArray, List.set_cons_zero, List.set_cons_succ]
      refine .step (some 28) rfl rfl (by kernel_rfl) (Gives.call (args := [.agg (RL x).toArray, .agg (By N 32).toArray]) rfl Tryd.func57 (by kernel_rfl) (by kernel_rfl) rfl (fun w' h => mup_ref hx N w')) ?_
      simp only [Act.put, List.setIfInBounds_toArray, List.set_cons_zero, List.set_cons_succ]
      refine .step (some 29) rfl rfl (by kernel_rfl) (Gives.call (args := []) rfl Tryd.func58 (by kernel_rfl) (by kernel_rfl) rfl (fun w' h => bap_ref w')) ?_
      simp only [Act.put, List.setIfInBounds_toArray, List.set_cons_zero, List.set_cons_succ]
      refine .step (some 30) rfl rfl (by kernel_rfl) (Gives.load_row 22 (.tmp 5) rfl (w.heap.size + 1 + 1) rfl 22 _ (fun w' h => hb2.belowAll h) Tryd.underlying22 rfl (by_info _)) ?_
      simp only [Act.put, List.setIfInBounds_toArray, List.set_cons_zero, List.set_cons_succ]
      refine .step (some 31) rfl rfl (by kernel_rfl) (Gives.call (args := [.agg (RL baR).toArray, .agg (By M 32).toArray]) rfl Tryd.func57 (by kernel_rfl) (by kernel_rfl) rfl (fun w' h => mup_ref baR_ok M w')) ?_
      simp only [Act.put, List.setIfInBounds_toArray, List.set_cons_zero, List.set_cons_succ]
      refine .step (some 32) rfl rfl (by kernel_rfl) (Gives.call (args := []) rfl Tryd.func52 (by kernel_rfl) (by kernel_rfl) rfl (fun w' h => d_ref w')) ?_
      simp only [Act.put, List.setIfInBounds_toArray, List.set_cons_zero, List.set_cons_succ]
      refine .step (some 33) rfl rfl (by kernel_rfl) (Gives.call (args := [.agg (RL (rmuP x N)).toArray, .agg (RL (rmuP baR M)).toArray, .agg (Nw (nu dL)).toArray]) rfl Tryd.func54 (by kernel_rfl) (by kernel_rfl) rfl (fun w' h => addp_ref (rmO_ok N hx 256) (rmO_ok M baR_ok 256) dL_ok w')) ?_
      simp only [Act.put, List.setIfInBounds_toArray, List.set_cons_zero, List.set_cons_succ]
      exact .nil
    case hkq1 => kernel_rfl
    case eq11 => intro i1; rfl
    case fq11 => intro i1; rfl
    case hq1 =>
    intro g11 Wq1 hb hgq1 h11
  
    have ge_g11 := Nat.le_trans hw.size hgq1
    have ne_hb1_g11 : w.heap.size + 1 ≠ g11 := by omega
    have ne_hb2_g11 : w.heap.size + 1 + 1 ≠ g11 := by omega
    have ne_h7_g11 : g7 ≠ g11 := by omega
    have ne_h9_g11 : g9 ≠ g11 := by omega
    clear lt_hb1 lt_hb2 lt_h7 lt_h9
    replace hb1 := hb1.belowAll hb
    replace hb2 := hb2.belowAll hb
    replace h7 := h7.belowAll hb
    replace h9 := h9.belowAll hb
    replace hw := hw.trans (hb.mono hw.size)
    clear hb
    go_wp2_with (first
      | (refine wpList_load_row rfl 22 (.tmp 4) rfl (w.heap.size + 1) rfl 22 _ (0, 0) _ hb1 Tryd.underlying22 rfl (by_info _) ?_)
      | (refine wpList_load_row rfl 58 (.tmp 7) rfl (g7) rfl 58 _ (0, 0) _ h7 Tryd.underlying58 rfl (pl_info _) ?_)
      | (refine wpList_load_row rfl 22 (.tmp 5) rfl (w.heap.size + 1 + 1) rfl 22 _ (0, 0) _ hb2 Tryd.underlying22 rfl (by_info _) ?_))
    refine (bo_any hP N M _ (hq.belowAll hw)).mono ?_
    rintro e Wq2 ⟨rfl, hb⟩
    replace hb1 := hb1.belowAll hb
    replace hb2 := hb2.belowAll hb
    replace h7 := h7.belowAll hb
    replace h9 := h9.belowAll hb
    replace h11 := h11.belowAll hb
    replace hw := hw.trans (hb.mono hw.size)
    clear hb
    have lt_hb1 := hb1.lt
    have lt_hb2 := hb2.lt
    have lt_h7 := h7.lt
    have lt_h9 := h9.lt
    have lt_h11 := h11.lt
    have ne_hb1_q2 : w.heap.size + 1 ≠ Wq2.heap.size := by omega
    have ne_hb2_q2 : w.heap.size + 1 + 1 ≠ Wq2.heap.size := by omega
    have ne_h7_q2 : g7 ≠ Wq2.heap.size := by omega
    have ne_h9_q2 : g9 ≠ Wq2.heap.size := by omega
    have ne_h11_q2 : g11 ≠ Wq2.heap.size := by omega
    have new_q2 := Row.new Wq2 (PL zeP) 58
    replace hb1 := (hb1.alloc (.cells (PL zeP).toArray 58)).setRowOther (k := Wq2.heap.size) ne_hb1_q2 (PL (boP P N M)).toArray
    replace hb2 := (hb2.alloc (.cells (PL zeP).toArray 58)).setRowOther (k := Wq2.heap.size) ne_hb2_q2 (PL (boP P N M)).toArray
    replace h7 := (h7.alloc (.cells (PL zeP).toArray 58)).setRowOther (k := Wq2.heap.size) ne_h7_q2 (PL (boP P N M)).toArray
    replace h9 := (h9.alloc (.cells (PL zeP).toArray 58)).setRowOther (k := Wq2.heap.size) ne_h9_q2 (PL (boP P N M)).toArray
    replace h11 := (h11.alloc (.cells (PL zeP).toArray 58)).setRowOther (k := Wq2.heap.size) ne_h11_q2 (PL (boP P N M)).toArray
    have h12 := new_q2.setRow (PL (boP P N M))
    have ge_q2 := hw.size
    replace hw := below_setRow (g := Wq2.heap.size) (hw.alloc hw.size (.cells (PL zeP).toArray 58)) hw.size (PL (boP P N M)).toArray
    have NEW := Lib.hid new_q2
    clear new_q2 lt_hb1 lt_hb2 lt_h7 lt_h9 lt_h11
    go_wp2_with (first
      | (refine wpList_store_row rfl 58 (.tmp 12) (.tmp 37) rfl Wq2.heap.size _ rfl rfl 58 _ NEW.out (pl_info _) (PL_sz _ _) (PL_one _) ?_))
    clear NEW
    rw [z20]
    generalize (Wq2.alloc (.cells (PL zeP).toArray 58)).setRow Wq2.heap.size (PL (boP P N M)).toArray = Vq2 at *
    generalize Wq2.heap.size = g12 at *
    go_wp2_with fail
    refine wp_flat_make (aD := ?aDq3) (S := fun w' => Below Vq2.heap.size Vq2 w') (vs := fun g => [(0, .agg (PL (boP P N M)).toArray), (1, .agg (By (ptN (boP P N M)) 32).toArray), (2, .agg (RL (radP (rmuP x N) (rmuP baR M) dL)).toArray), (3, .agg (By (ptR (radP (rmuP x N) (rmuP baR M) dL)) 32).toArray), (4, .bool true), (5, .bool true), (6, .agg (PL P).toArray), (7, .agg (By N 32).toArray), (8, .agg (PL (muP P N)).toArray), (9, .agg (PL baP).toArray), (10, .agg (By M 32).toArray), (11, .agg (PL (muP baP M)).toArray), (12, .slice (some ⟨g, 0, none⟩) 2 2), (13, .agg (PL (suP [(muP P N), (muP baP M)])).toArray), (14, .agg (PL (boP P N M)).toArray), (15, .bool true), (16, .bool true), (17, .bool true), (18, .agg (PL (suP [])).toArray), (19, .agg (PL ze1).toArray), (20, .bool true), (21, .bool true), (22, .bool true), (23, .bool true), (24, .bool true), (25, .bool true)]) 12 (fun g w => PtRd w g [(muP P N), (muP baP M)]) (fun g => .slice (some ⟨g, 0, none⟩) 2 2) [0, 1, 2, 3, 4, 5, 6, 7, 8, 9, 10, 11, 12, 13, 14, 15, 16, 17, 18, 19, 20, 21, 22, 23, 24, 25] (by kernel_rfl) ((Below.refl _ _).drew) (fun _ _ h k => S_trans h k) (fun _ _ _ _ h hb => h.below hb)
      [(0, .agg (PL (boP P N M)).toArray), (1, .agg (By (ptN (boP P N M)) 32).toArray), (2, .agg (RL (radP (rmuP x N) (rmuP baR M) dL)).toArray), (3, .agg (By (ptR (radP (rmuP x N) (rmuP baR M) dL)) 32).toArray), (4, .bool true), (5, .bool true), (6, .agg (PL P).toArray), (7, .agg (By N 32).toArray), (8, .agg (PL (muP P N)).toArray), (9, .agg (PL baP).toArray), (10, .agg (By M 32).toArray), (11, .agg (PL (muP baP M)).toArray)]
      [(13, .agg (PL (suP [(muP P N), (muP baP M)])).toArray), (14, .agg (PL (boP P N M)).toArray), (15, .bool true), (16, .bool true), (17, .bool true), (18, .agg (PL (suP [])).toArray), (19, .agg (PL ze1).toArray), (20, .bool true), (21, .bool true), (22, .bool true), (23, .bool true), (24, .bool true), (25, .bool true)] (fun _ => rfl) (fun _ => rfl) ?hDq3 ?hkq3 ?hq3
    case hDq3 =>
      intro g
      refine .step (some 38) rfl rfl (by kernel_rfl) (by decide) (Gives.load_row 58 (.tmp 12) rfl (g12) rfl 58 _ (fun w' h => h12.belowAll h) Tryd.underlying58 rfl (pl_info _)) ?_
      simp only [Act.put, List.setIfInBounds_toArray, List.set_cons_zero, List.set_cons_succ]
      refine .step (some 39) rfl rfl (by kernel_rfl) (by decide) (Gives.call (args := [.agg (PL (boP P N M)).toArray]) rfl Tryd.func47 (by kernel_rfl) (by kernel_rfl) rfl (fun w' h => by_any (boP_ok hP N M) w' ((hq.belowAll hw).belowAll h))) ?_
      simp only [Act.put, List.setIfInBounds_toArray, List.set_cons_zero, List.set_cons_succ]
      refine .step (some 40) rfl rfl (by kernel_rfl) (by decide) (Gives.load_row 62 (.tmp 11) rfl (g11) rfl 62 _ (fun w' h => h11.belowAll h) Tryd.underlying62 rfl (rl_info _)) ?_
      simp only [Act.put, List.setIfInBounds_toArray, List.set_cons_zero, List.set_cons_succ]
      refine .step (some 41) rfl rfl (by kernel_rfl) (by decide) (Gives.call (args := [.agg (RL (radP (rmuP x N) (rmuP baR M) dL)).toArray]) rfl Tryd.func49 (by kernel_rfl) (by kernel_rfl) rfl (fun w' h => bytp_ref (radP (rmuP x N) (rmuP baR M) dL) w')) ?_
      simp only [Act.put, List.setIfInBounds_toArray, List.set_cons_zero, List.set_cons_succ]
      refine .step (some 42) rfl rfl (by kernel_rfl) (by decide) (Gives.binop .eql 22 22 (.tmp 39) (.tmp 41) rfl (.agg (By (ptN (boP P N M)) 32).toArray) (.agg (By (ptR (radP (rmuP x N) (rmuP baR M) dL)) 32).toArray) _ rfl rfl (fun w' => bgrd _ _ _ _ _ w') (fun w' => beq_same e1 w')) ?_
      simp only [Act.put, List.setIfInBounds_toArray, List.set_cons_zero, List.set_cons_succ]
      refine .step (some 43) rfl rfl (by kernel_rfl) (by decide) (Gives.move (x := (.tmp 42)) rfl rfl) ?_
      simp only [Act.put, List.setIfInBounds_toArray, List.set_cons_zero, List.set_cons_succ]
      refine .step (some 44) rfl rfl (by kernel_rfl) (by decide) (Gives.load_row 58 (.tmp 7) rfl (g7) rfl 58 _ (fun w' h => h7.belowAll h) Tryd.underlying58 rfl (pl_info _)) ?_
      simp only [Act.put, List.setIfInBounds_toArray, List.set_cons_zero, List.set_cons_succ]
      refine .step (some 45) rfl rfl (by kernel_rfl) (by decide) (Gives.load_row 22 (.tmp 4) rfl (w.heap.size + 1) rfl 22 _ (fun w' h => hb1.belowAll h) Tryd.underlying22 rfl (by_info _)) ?_
      simp only [Act.put, List.setIfInBounds_toArray, List.set_cons_zero, List.set_cons_succ]
      refine .step (some 46) rfl rfl (by kernel_rfl) (by decide) (Gives.call (args := [.agg (PL P).toArray, .agg (By N 32).toArray]) rfl Tryd.func56 (by kernel_rfl) (by kernel_rfl) rfl (fun w' h => mu_any hP N w' ((hq.belowAll hw).belowAll h))) ?_
      simp only [Act.put, List.setIfInBounds_toArray, List.set_cons_zero, List.set_cons_succ]
      refine .step (some 47) rfl rfl (by kernel_rfl) (by decide) (Gives.call (args := []) rfl Tryd.func61 (by kernel_rfl) (by kernel_rfl) rfl (fun w' h => ba_any w' ((hq.belowAll hw).belowAll h))) ?_
      simp only [Act.put, List.setIfInBounds_toArray, List.set_cons_zero, List.set_cons_succ]
      refine .step (some 48) rfl rfl (by kernel_rfl) (by decide) (Gives.load_row 22 (.tmp 5) rfl (w.heap.size + 1 + 1) rfl 22 _ (fun w' h => hb2.belowAll h) Tryd.underlying22 rfl (by_info _)) ?_
      simp only [Act.put, List.setIfInBounds_toArray, List.set_cons_zero, List.set_cons_succ]
      refine .step (some 49) rfl rfl (by kernel_rfl) (by decide) (Gives.call (args := [.agg (PL baP).toArray, .agg (By M 32).toArray]) rfl Tryd.func56 (by kernel_rfl) (by kernel_rfl) rfl (fun w' h => mu_any baP_ok M w' ((hq.belowAll hw).belowAll h))) ?_
      simp only [Act.put, List.setIfInBounds_toArray, List.set_cons_zero, List.set_cons_succ]
      refine .stepMake (some 50) rfl rfl (by kernel_rfl) (Makes.pts 2 #[(0, .tmp 46), (1, .tmp 49)] rfl [(muP P N), (muP baP M)] rfl (by decide) (by decide) rfl) ?_
      simp only [Act.put, List.setIfInBounds_toArray, List.set_cons_zero, List.set_cons_succ]
      refine .stepLook (some 51) rfl rfl (by kernel_rfl) (by decide) (by kernel_rfl) (Gives.call (args := [.slice (some ⟨g, 0, none⟩) 2 2]) rfl Tryd.func60 (by kernel_rfl) (by kernel_rfl) rfl (fun w' h => su_any [(muP P N), (muP baP M)] hL2 (some ⟨g, 0, none⟩) 2 2 rfl (by decide) w' (fun _ => ⟨g, rfl, h.2⟩) ((hq.belowAll hw).belowAll h.1))) ?_
      simp only [Act.put, List.setIfInBounds_toArray, List.set_cons_zero, List.set_cons_succ]
      refine .step (some 52) rfl rfl (by kernel_rfl) (by decide) (Gives.load_row 58 (.tmp 12) rfl (g12) rfl 58 _ (fun w' h => h12.belowAll h) Tryd.underlying58 rfl (pl_info _)) ?_
      simp only [Act.put, List.setIfInBounds_toArray, List.set_cons_zero, List.set_cons_succ]
      refine .step (some 53) rfl rfl (by kernel_rfl) (by decide) (Gives.call (args := [.agg (PL (suP [(muP P N), (muP baP M)])).toArray, .agg (PL (boP P N M)).toArray]) rfl Tryd.func44 (by kernel_rfl) (by kernel_rfl) rfl (fun w' h => sa_is hS2 (boP_ok hP N M) e2 w' ((hq.belowAll hw).belowAll h))) ?_
      simp only [Act.put, List.setIfInBounds_toArray, List.set_cons_zero, List.set_cons_succ]
      refine .step (some 54) rfl rfl (by kernel_rfl) (by decide) (Gives.pick (.tmp 43) (.tmp 53) (.const (.bool false)) rfl true (.bool true) rfl rfl) ?_
      simp only [Act.put, List.setIfInBounds_toArray, List.set_cons_zero, List.set_cons_succ]
      refine .step (some 55) rfl rfl (by kernel_rfl) (by decide) (Gives.move (x := (.tmp 54)) rfl rfl) ?_
      simp only [Act.put, List.setIfInBounds_toArray, List.set_cons_zero, List.set_cons_succ]
      refine .step (some 56) rfl rfl (by kernel_rfl) (by decide) (Gives.call (args := [.slice none 0 0]) rfl Tryd.func60 (by kernel_rfl) (by kernel_rfl) rfl (fun w' h => su_any [] (fun _ h => by cases h) none 0 0 rfl (by decide) w' (fun h => absurd h (by decide)) ((hq.belowAll hw).belowAll h))) ?_
      simp only [Act.put, List.setIfInBounds_toArray, List.set_cons_zero, List.set_cons_succ]
      refine .step (some 57) rfl rfl (by kernel_rfl) (by decide) (Gives.call (args := []) rfl Tryd.func45 (by kernel_rfl) (by kernel_rfl) rfl (fun w' h => ze_any w' ((hq.belowAll hw).belowAll h))) ?_
      simp only [Act.put, List.setIfInBounds_toArray, List.set_cons_zero, List.set_cons_succ]
      refine .step (some 58) rfl rfl (by kernel_rfl) (by decide) (Gives.call (args := [.agg (PL (suP [])).toArray, .agg (PL ze1).toArray]) rfl Tryd.func44 (by kernel_rfl) (by kernel_rfl) rfl (fun w' h => sa_is hS0 ze1_ok e3 w' ((hq.belowAll hw).belowAll h))) ?_
      simp only [Act.put, List.setIfInBounds_toArray, List.set_cons_zero, List.set_cons_succ]
      refine .step (some 59) rfl rfl (by kernel_rfl) (by decide) (Gives.pick (.tmp 55) (.tmp 58) (.const (.bool false)) rfl true (.bool true) rfl rfl) ?_
      simp only [Act.put, List.setIfInBounds_toArray, List.set_cons_zero, List.set_cons_succ]
      refine .step (some 60) rfl rfl (by kernel_rfl) (by decide) (Gives.move (x := (.tmp 59)) rfl rfl) ?_
      simp only [Act.put, List.setIfInBounds_toArray, List.set_cons_zero, List.set_cons_succ]
      refine .step (some 61) rfl rfl (by kernel_rfl) (by decide) (Gives.call (args := []) rfl Tryd.func46 (by kernel_rfl) (by kernel_rfl) rfl (fun w' h => awake6 w' ((hq.belowAll hw).belowAll h))) ?_
      simp only [Act.put, List.setIfInBounds_toArray, List.set_cons_zero, List.set_cons_succ]
      refine .step (some 62) rfl rfl (by kernel_rfl) (by decide) (Gives.pick (.tmp 60) (.tmp 61) (.const (.bool false)) rfl true (.bool true) rfl rfl) ?_
      simp only [Act.put, List.setIfInBounds_toArray, List.set_cons_zero, List.set_cons_succ]
      refine .step (some 6) rfl rfl (by kernel_rfl) (by decide) (Gives.assign (x := (.tmp 62)) rfl rfl) ?_
      simp only [Act.put, List.setIfInBounds_toArray, List.set_cons_zero, List.set_cons_succ]
      exact .nil
    case hkq3 => kernel_rfl
    case hq3 =>
    intro _ Wq3 hb _
    replace hb1 := hb1.belowAll hb
    replace hb2 := hb2.belowAll hb
    replace h7 := h7.belowAll hb
    replace h9 := h9.belowAll hb
    replace h11 := h11.belowAll hb
    replace h12 := h12.belowAll hb
    replace hw := hw.trans (hb.mono hw.size)
    clear hb
    go_wp2_with fail
    go_ret
    exact ⟨rfl, hw⟩

end Go.Proofs.YthpbipebpaeagaaDoor
