/- LineSorts' walk. -/
import Derived.Test.YtocgeemjdlnabaaLp
namespace Go.Proofs.Ytocgeemjdlnabaa
set_option maxRecDepth 100000
set_option linter.unusedSimpArgs false
set_option linter.unusedVariables false
open Go.RowKit

theorem beq_t (r : Bool) (w : World) : (binOp .eql 4 (.bool r) (.bool r)).run Try.prog w = .ok (.bool true) w := by
  cases r <;> go_simp
theorem beq_guard (x y : Operand) (u v : Bool) (w : World) : (eqGuard .eql 4 x y (.bool u) (.bool v)).run Try.prog w = .ok () w := by rfl
set_option maxHeartbeats 6400000 in
theorem sorts_walk (A : Option Addr) (n c : Nat) (D : List Mk) (a b : Mk) (w : World) (hr : RdHM w A n D) :
    Calls Try.prog 3 #[.slice A n c, .agg (Mk.c a).toArray, .agg (Mk.c b).toArray] w fun e w' => e = .returned (.bool true) ∧ Below w.heap.size w w' := by
  have HA := Lib.hid awake18
  have HB0 := Lib.hid ((below_newE w (.cells (Mk.c a).toArray 26)).alloc (by simp) (.cells (Mk.c b).toArray 26))
  by_cases h80 : 80 < n
  · have h80i : (80 : Int) < (n : Int) := by omega
    clear hr
    generalize (Mk.c a).toArray = x at *
    generalize (Mk.c b).toArray = y at *
    go_enter Try.func3, Try.ntmps3
    go_wp2_with fail
    refine (HA.out _).mono ?_
    rintro e w' ⟨rfl, hb⟩
    have HB := Lib.hid (HB0.out.trans (hb.mono HB0.out.size))
    clear hb
    go_wp2_with fail
    go_ret
    exact ⟨rfl, HB.out⟩
  have h80i : ¬ (80 : Int) < (n : Int) := by omega
  have R1 := (Row.new w (Mk.c a) 26).belowAll (below_newE _ (.cells (Mk.c b).toArray 26))
  have R2 := row_new1E w (.cells (Mk.c a).toArray 26) (Mk.c b) 26
  have hs0 : ((w.alloc (.cells (Mk.c a).toArray 26)).alloc (.cells (Mk.c b).toArray 26)).heap.size = w.heap.size + 2 := by simp
  have HR0 := Lib.hid (hr.keep HB0.out)
  have HM0 := Lib.hid (show ((w.alloc (.cells (Mk.c a).toArray 26)).alloc (.cells (Mk.c b).toArray 26)).rangeAt w.heap.size 0 (Mk.c a) from fun j v hv => R1.cell (by rw [Nat.zero_add]; exact hv))
  have HN0 := Lib.hid (show ((w.alloc (.cells (Mk.c a).toArray 26)).alloc (.cells (Mk.c b).toArray 26)).rangeAt (w.heap.size + 1) 0 (Mk.c b) from fun j v hv => R2.cell (by rw [Nat.zero_add]; exact hv))
  clear hr R1 R2
  go_enter Try.func3, Try.ntmps3
  go_wp2_with fail
  generalize hW0 : ((w.alloc (.cells (Mk.c a).toArray 26)).alloc (.cells (Mk.c b).toArray 26)) = W0 at *
  have hDn := HR0.out.1
  refine (rsort_any A n c D W0 HR0.out (by omega)).mono ?_
  rintro e W1 ⟨A1, n1, c1, rfl, hr1, hp1, hnc1, hb1⟩
  have hn1 : n1 ≤ 80 := by
    have h1 := hr1.1
    have h2 := So_len D
    omega
  have HR1 := Lib.hid hr1
  have HB1 := Lib.hid hb1
  have HRD := Lib.hid (fun (w' : World) (h : Below W1.heap.size W1 w') => (HR0.out.keep hb1).keep h)
  have HRS := Lib.hid (fun (w' : World) (h : Below W1.heap.size W1 w') => HR1.out.keep h)
  have hbs := hb1.size
  have HMA := Lib.hid (fun (w' : World) (h : Below W1.heap.size W1 w') => range_below (range_below HM0.out hb1 (by omega)) h (by omega))
  have HMB := Lib.hid (fun (w' : World) (h : Below W1.heap.size W1 w') => range_below (range_below HN0.out hb1 (by omega)) h (by omega))
  have hBD : Below W1.heap.size W1 W1.drew := (Below.refl _ _).drew
  have HLA := Lib.hid (less_anyM a b)
  have HLB := Lib.hid (rless_anyM a b)
  generalize decide (Mk.n a < Mk.n b) = r at *
  clear hr1 hb1
  go_wp2_with fail
  refine wp_region_held (S := fun w' : World => Below W1.heap.size W1 w') (by kernel_rfl) ?_
  change wpAnyH _ _ _ _ _ _ _ _ (World.drew _)
  have hS : (fun w' : World => Below W1.heap.size W1 w') W1.drew := hBD
  refine wpAnyH_take (i := 0) (v := ?_) rfl (by kernel_rfl) (by kernel_rfl) (by kernel_rfl) (fun _ _ _ h => h) (Or.inl ⟨by rfl, ?_⟩) hS ?_
  rotate_left
  · (intro w' hSw; go_simp; try (with_reducible rfl))
  change wpAnyH _ _ _ _ _ _ _ (Act.put _ (some 14) _) _
  try simp only [Act.put, List.setIfInBounds_toArray, List.set_cons_zero, List.set_cons_succ]
  refine wpAnyH_take (i := 2) (v := ?_) rfl (by kernel_rfl) (by kernel_rfl) (by kernel_rfl) (fun _ _ _ h => h) (Or.inl ⟨by rfl, ?_⟩) hS ?_
  rotate_left
  · (intro w' hSw; go_simp; try (with_reducible rfl))
  change wpAnyH _ _ _ _ _ _ _ (Act.put _ (some 16) _) _
  try simp only [Act.put, List.setIfInBounds_toArray, List.set_cons_zero, List.set_cons_succ]
  refine wpAnyH_ready (rs := [1]) (by kernel_rfl) (by simp) ?_
  refine AllReadyH.cons rfl (fun K hK => ?_) AllReadyH.nil
  rw [if_pos (by kernel_rfl)]
  go_simp
  refine (sort_So A n c D _ (HRD.out _ hS) (by omega)).mono ?_
  rintro e w1 ⟨v1, rfl, ho1, hb1⟩
  obtain ⟨A5, c5, rfl, hr5⟩ := RdHM.own ho1
  generalize hn5 : (So D).length = n5 at hr5 ⊢
  have hn5b : n5 ≤ 80 := by have := So_len D; omega
  have HSM := Lib.hid (rsame_any A5 A1 n5 n1 c5 c1 _ _ w1 hr5 (HRS.out _ (hS.trans (hb1.mono hS.size))) (by omega))
  rw [decide_eq_true rfl] at HSM
  refine hK.out _ _ (hS.trans (hb1.mono hS.size)) (fun hS1 => ?_)
  clear hK K hS
  have hS := hS1
  clear hS1
  try simp only [Act.put, List.setIfInBounds_toArray, List.set_cons_zero, List.set_cons_succ]
  refine wpAnyH_ready (rs := [3]) (by kernel_rfl) (by simp) ?_
  refine AllReadyH.cons rfl (fun K hK => ?_) AllReadyH.nil
  rw [if_pos (by kernel_rfl)]
  go_simp
  refine (HSM.out).mono ?_
  rintro e w2 ⟨rfl, hb2⟩
  refine hK.out _ _ (hS.trans (hb2.mono hS.size)) (fun hS1 => ?_)
  clear hK K hS
  have hS := hS1
  clear hS1
  try simp only [Act.put, List.setIfInBounds_toArray, List.set_cons_zero, List.set_cons_succ]
  refine wpAnyH_take (i := 4) (v := ?_) rfl (by kernel_rfl) (by kernel_rfl) (by kernel_rfl) (fun _ _ _ h => h) (Or.inl ⟨by rfl, ?_⟩) hS ?_
  rotate_left
  · (intro w' hSw; go_simp; try (with_reducible rfl))
  change wpAnyH _ _ _ _ _ _ _ (Act.put _ (some 18) _) _
  try simp only [Act.put, List.setIfInBounds_toArray, List.set_cons_zero, List.set_cons_succ]
  refine wpAnyH_take (i := 5) (v := ?_) rfl (by kernel_rfl) (by kernel_rfl) (by kernel_rfl) (fun _ _ _ h => h) (Or.inl ⟨by rfl, ?_⟩) hS ?_
  rotate_left
  · (intro w' hSw; go_simp; try (with_reducible rfl))
  change wpAnyH _ _ _ _ _ _ _ (Act.put _ (some 19) _) _
  try simp only [Act.put, List.setIfInBounds_toArray, List.set_cons_zero, List.set_cons_succ]
  refine wpAnyH_take (i := 7) (v := ?_) rfl (by kernel_rfl) (by kernel_rfl) (by kernel_rfl) (fun _ _ _ h => h) (Or.inl ⟨by rfl, ?_⟩) hS ?_
  rotate_left
  · (intro w' hSw; go_simp; try (with_reducible rfl))
  change wpAnyH _ _ _ _ _ _ _ (Act.put _ (some 21) _) _
  try simp only [Act.put, List.setIfInBounds_toArray, List.set_cons_zero, List.set_cons_succ]
  refine wpAnyH_ready (rs := [6]) (by kernel_rfl) (by simp) ?_
  refine AllReadyH.cons rfl (fun K hK => ?_) AllReadyH.nil
  rw [if_pos (by kernel_rfl)]
  go_simp
  refine (names_any A n c D _ (HRD.out _ hS) (by omega)).mono ?_
  rintro e w3 ⟨v3, rfl, ho3, hb3⟩
  obtain ⟨A6, c6, rfl, hr6⟩ := RdN.own ho3
  have HR6 := Lib.hid hr6
  refine hK.out _ _ (hS.trans (hb3.mono hS.size)) (fun hS1 => ?_)
  clear hK K hS
  have hS := hS1
  clear hS1
  try simp only [Act.put, List.setIfInBounds_toArray, List.set_cons_zero, List.set_cons_succ]
  refine wpAnyH_ready (rs := [8]) (by kernel_rfl) (by simp) ?_
  refine AllReadyH.cons rfl (fun K hK => ?_) AllReadyH.nil
  rw [if_pos (by kernel_rfl)]
  go_simp
  refine (rnames_any A n c D _ (HRD.out _ hS) (by omega)).mono ?_
  rintro e w4 ⟨v4, rfl, ho4, hb4⟩
  obtain ⟨A7, c7, rfl, hr7⟩ := RdN.own ho4
  have HHS := Lib.hid (rhashes_any A6 A7 n n c6 c7 _ _ w4 (HR6.out.keep hb4) hr7 (by omega))
  rw [decide_eq_true rfl] at HHS
  refine hK.out _ _ (hS.trans (hb4.mono hS.size)) (fun hS1 => ?_)
  clear hK K hS
  have hS := hS1
  clear hS1
  try simp only [Act.put, List.setIfInBounds_toArray, List.set_cons_zero, List.set_cons_succ]
  refine wpAnyH_ready (rs := [9]) (by kernel_rfl) (by simp) ?_
  refine AllReadyH.cons rfl (fun K hK => ?_) AllReadyH.nil
  rw [if_pos (by kernel_rfl)]
  go_simp
  refine (HHS.out).mono ?_
  rintro e w5 ⟨rfl, hb5⟩
  refine hK.out _ _ (hS.trans (hb5.mono hS.size)) (fun hS1 => ?_)
  clear hK K hS
  have hS := hS1
  clear hS1
  try simp only [Act.put, List.setIfInBounds_toArray, List.set_cons_zero, List.set_cons_succ]
  refine wpAnyH_take (i := 10) (v := ?_) rfl (by kernel_rfl) (by kernel_rfl) (by kernel_rfl) (fun _ _ _ h => h) (Or.inl ⟨by rfl, ?_⟩) hS ?_
  rotate_left
  · (intro w' hSw; go_simp; try (with_reducible rfl))
  change wpAnyH _ _ _ _ _ _ _ (Act.put _ (some 24) _) _
  try simp only [Act.put, List.setIfInBounds_toArray, List.set_cons_zero, List.set_cons_succ]
  refine wpAnyH_take (i := 11) (v := ?_) rfl (by kernel_rfl) (by kernel_rfl) (by kernel_rfl) (fun _ _ _ h => h) (Or.inl ⟨by rfl, ?_⟩) hS ?_
  rotate_left
  · (intro w' hSw; go_simp; try (with_reducible rfl))
  change wpAnyH _ _ _ _ _ _ _ (Act.put _ (some 25) _) _
  try simp only [Act.put, List.setIfInBounds_toArray, List.set_cons_zero, List.set_cons_succ]
  refine wpAnyH_take (i := 12) (v := .agg (Mk.c a).toArray) rfl (by kernel_rfl) (by kernel_rfl) (by kernel_rfl) (fun _ _ _ h => h) (Or.inl ⟨by rfl, fun w' hSw => ex_ldE 26 (.tmp 4) rfl _ _ rfl (ld_hsM _ _ a w' (HMA.out w' hSw))⟩) hS ?_
  change wpAnyH _ _ _ _ _ _ _ (Act.put _ (some 26) _) _
  try simp only [Act.put, List.setIfInBounds_toArray, List.set_cons_zero, List.set_cons_succ]
  refine wpAnyH_take (i := 13) (v := .agg (Mk.c b).toArray) rfl (by kernel_rfl) (by kernel_rfl) (by kernel_rfl) (fun _ _ _ h => h) (Or.inl ⟨by rfl, fun w' hSw => ex_ldE 26 (.tmp 5) rfl _ _ rfl (ld_hsM _ _ b w' (HMB.out w' hSw))⟩) hS ?_
  change wpAnyH _ _ _ _ _ _ _ (Act.put _ (some 27) _) _
  try simp only [Act.put, List.setIfInBounds_toArray, List.set_cons_zero, List.set_cons_succ]
  refine wpAnyH_take (i := 15) (v := .agg (Mk.c a).toArray) rfl (by kernel_rfl) (by kernel_rfl) (by kernel_rfl) (fun _ _ _ h => h) (Or.inl ⟨by rfl, fun w' hSw => ex_ldE 26 (.tmp 4) rfl _ _ rfl (ld_hsM _ _ a w' (HMA.out w' hSw))⟩) hS ?_
  change wpAnyH _ _ _ _ _ _ _ (Act.put _ (some 29) _) _
  try simp only [Act.put, List.setIfInBounds_toArray, List.set_cons_zero, List.set_cons_succ]
  refine wpAnyH_take (i := 16) (v := .agg (Mk.c b).toArray) rfl (by kernel_rfl) (by kernel_rfl) (by kernel_rfl) (fun _ _ _ h => h) (Or.inl ⟨by rfl, fun w' hSw => ex_ldE 26 (.tmp 5) rfl _ _ rfl (ld_hsM _ _ b w' (HMB.out w' hSw))⟩) hS ?_
  change wpAnyH _ _ _ _ _ _ _ (Act.put _ (some 30) _) _
  try simp only [Act.put, List.setIfInBounds_toArray, List.set_cons_zero, List.set_cons_succ]
  refine wpAnyH_ready (rs := [14]) (by kernel_rfl) (by simp) ?_
  refine AllReadyH.cons rfl (fun K hK => ?_) AllReadyH.nil
  rw [if_pos (by kernel_rfl)]
  go_simp
  refine (HLA.out _).mono ?_
  rintro e w6 ⟨rfl, q6, os6, rfl⟩
  refine hK.out _ _ (hS.trans ((below_growE _ _ _).mono hS.size)) (fun hS1 => ?_)
  clear hK K hS
  have hS := hS1
  clear hS1
  try simp only [Act.put, List.setIfInBounds_toArray, List.set_cons_zero, List.set_cons_succ]
  refine wpAnyH_ready (rs := [17]) (by kernel_rfl) (by simp) ?_
  refine AllReadyH.cons rfl (fun K hK => ?_) AllReadyH.nil
  rw [if_pos (by kernel_rfl)]
  go_simp
  refine (HLB.out _).mono ?_
  rintro e w7 ⟨rfl, hb7⟩
  refine hK.out _ _ (hS.trans (hb7.mono hS.size)) (fun hS1 => ?_)
  clear hK K hS
  have hS := hS1
  clear hS1
  try simp only [Act.put, List.setIfInBounds_toArray, List.set_cons_zero, List.set_cons_succ]
  refine wpAnyH_take (i := 18) (v := .bool true) rfl (by kernel_rfl) (by kernel_rfl) (by kernel_rfl) (fun _ _ _ h => h) (Or.inl ⟨by rfl, fun w' hSw => ex_binE .eql 4 4 (.tmp 28) (.tmp 31) rfl _ _ _ rfl rfl (beq_guard _ _ _ _ w') (beq_t r w')⟩) hS ?_
  change wpAnyH _ _ _ _ _ _ _ (Act.put _ (some 32) _) _
  try simp only [Act.put, List.setIfInBounds_toArray, List.set_cons_zero, List.set_cons_succ]
  refine wpAnyH_take (i := 19) (v := ?_) rfl (by kernel_rfl) (by kernel_rfl) (by kernel_rfl) (fun _ _ _ h => h) (Or.inl ⟨by rfl, ?_⟩) hS ?_
  rotate_left
  · (intro w' hSw; go_simp; try (with_reducible rfl))
  change wpAnyH _ _ _ _ _ _ _ (Act.put _ (some 33) _) _
  try simp only [Act.put, List.setIfInBounds_toArray, List.set_cons_zero, List.set_cons_succ]
  refine wpAnyH_take (i := 20) (v := ?_) rfl (by kernel_rfl) (by kernel_rfl) (by kernel_rfl) (fun _ _ _ h => h) (Or.inl ⟨by rfl, ?_⟩) hS ?_
  rotate_left
  · (intro w' hSw; go_simp; try (with_reducible rfl))
  change wpAnyH _ _ _ _ _ _ _ (Act.put _ (some 34) _) _
  try simp only [Act.put, List.setIfInBounds_toArray, List.set_cons_zero, List.set_cons_succ]
  refine wpAnyH_ready (rs := [21]) (by kernel_rfl) (by simp) ?_
  refine AllReadyH.cons rfl (fun K hK => ?_) AllReadyH.nil
  rw [if_pos (by kernel_rfl)]
  go_simp
  refine (HA.out _).mono ?_
  rintro e w8 ⟨rfl, hb8⟩
  refine hK.out _ _ (hS.trans (hb8.mono hS.size)) (fun hS1 => ?_)
  clear hK K hS
  have hS := hS1
  clear hS1
  try simp only [Act.put, List.setIfInBounds_toArray, List.set_cons_zero, List.set_cons_succ]
  refine wpAnyH_take (i := 22) (v := ?_) rfl (by kernel_rfl) (by kernel_rfl) (by kernel_rfl) (fun _ _ _ h => h) (Or.inl ⟨by rfl, ?_⟩) hS ?_
  rotate_left
  · (intro w' hSw; go_simp; try (with_reducible rfl))
  change wpAnyH _ _ _ _ _ _ _ (Act.put _ (some 36) _) _
  try simp only [Act.put, List.setIfInBounds_toArray, List.set_cons_zero, List.set_cons_succ]
  refine wpAnyH_take (i := 23) (v := ?_) rfl (by kernel_rfl) (by kernel_rfl) (by kernel_rfl) (fun _ _ _ h => h) (Or.inl ⟨by rfl, ?_⟩) hS ?_
  rotate_left
  · (intro w' hSw; go_simp; try (with_reducible rfl))
  change wpAnyH _ _ _ _ _ _ _ (Act.put _ (some 6) _) _
  try simp only [Act.put, List.setIfInBounds_toArray, List.set_cons_zero, List.set_cons_succ]
  refine wpAnyH_done (by kernel_rfl) ?_ _
  go_wp2_with fail
  go_ret
  exact ⟨rfl, HB0.out.trans ((HB1.out.trans (hS.mono HB1.out.size)).mono HB0.out.size)⟩

end Go.Proofs.Ytocgeemjdlnabaa
