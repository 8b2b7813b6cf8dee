/- The document's example: what a Move makes of a list of two. The document's example. awake. -/
import Derived.Test.YtmiadkhfjkaidaaGreatDoorMg41
import Derived.Test.YtmiadkhfjkaidaaGreatDoorMg15
namespace Go.Proofs.YtmiadkhfjkaidaaGreatDoor
section
set_option maxRecDepth 100000
set_option linter.unusedSimpArgs false
set_option linter.unusedVariables false
open Go.RowKit

theorem ld_opO {g : Nat} {w : World} (l : List Value) (hl : l.length = 10) (h : Row w g 30 l) : (Instr.loadAt 30 (.pointer (some ⟨g, 0, none⟩))).run Tryz.prog w = .ok (.agg l.toArray) w :=
  run_loadAt_mid w g 0 30 l _ (fun j v hv => by rw [Nat.zero_add]; exact h.cell hv) Tryz.underlying30 rfl (by rw [hl]; kernel_rfl)
set_option maxHeartbeats 6400000 in
theorem change_ex (B g qi ki qp kp : Nat) (w : World) (hgB : g < B) (hBw : B ≤ w.heap.size) (hki : 2 ≤ ki ∧ ki ≤ maxLen) (hkp : 2 ≤ kp ∧ kp ≤ maxLen) (hne : qi ≠ qp) (h : Row w g 28 [.int .i64 6, .int .i64 0, .string ⟨#[]⟩, .slice none 0 0, .slice (some ⟨qi, 0, none⟩) 2 ki, .slice (some ⟨qp, 0, none⟩) 2 kp]) (hi : w.ownsRow B 23 1 (.slice (some ⟨qi, 0, none⟩) 2 ki) 2 pI) (hp : w.ownsRow B 28 6 (.slice (some ⟨qp, 0, none⟩) 2 kp) 2 pP) :
    Calls Tryz.prog 37 #[.pointer (some ⟨g, 0, none⟩), .agg oE.toArray] w fun e w' => e = .returned (.tuple #[]) ∧ Row w' g 28 [.int .i64 6, .int .i64 0, .string ⟨#[]⟩, .slice none 0 0, .slice (some ⟨qi, 0, none⟩) 2 ki, .slice (some ⟨qp, 0, none⟩) 2 kp] ∧ w'.ownsRow B 23 1 (.slice (some ⟨qi, 0, none⟩) 2 ki) 2 [.int .u64 2, .int .u64 1] ∧ w'.ownsRow B 28 6 (.slice (some ⟨qp, 0, none⟩) 2 kp) 2 ([.int .i64 2, .int .i64 6, .string ⟨#[]⟩, .slice none 0 0, .slice none 0 0, .slice none 0 0] ++ [.int .i64 2, .int .i64 5, .string ⟨#[]⟩, .slice none 0 0, .slice none 0 0, .slice none 0 0]) ∧ Only (fun j => j = g ∨ j = qi ∨ j = qp) w w' := by
  have hlt := h.lt
  have hgi : g ≠ qi := by have := (hi.lt qi rfl).1; omega
  have hgp : g ≠ qp := by have := (hp.lt qp rfl).1; omega
  have hpi := (hi.lt qi rfl).2
  have hpp := (hp.lt qp rfl).2
  have hbw := below_newO w (.cells oE.toArray 30)
  have ho := Row.new w oE 30
  have hr := h.belowAll hbw
  have hi := own_below hi hbw
  have hp := own_below hp hbw
  have hsz : (w.alloc (.cells oE.toArray 30)).heap.size = w.heap.size + 1 := by simp
  have HKI := Lib.hid hki
  have HKP := Lib.hid hkp
  clear h hki hkp
  go_enter Tryz.func37, Tryz.ntmps37
  go_wp2_with fail
  generalize hW0 : (w.alloc (.cells oE.toArray 30)) = W0 at *
  clear hW0
  have HR0 := Lib.hid (fun (w' : World) (h : Below W0.heap.size W0 w') => hr.belowAll h)
  have HO0 := Lib.hid (fun (w' : World) (h : Below W0.heap.size W0 w') => ho.belowAll h)
  have HI0 := Lib.hid (fun (w' : World) (h : Below W0.heap.size W0 w') => own_below hi h)
  have HP0 := Lib.hid (fun (w' : World) (h : Below W0.heap.size W0 w') => own_below hp h)
  have HBW := Lib.hid hbw
  clear hr ho hi hp hbw
  have hbd : Below W0.heap.size W0 W0.drew := (Below.refl _ _).drew
  refine wp_region_held (S := fun w' : World => Below W0.heap.size W0 w') (by kernel_rfl) ?_
  change wpAnyH _ _ _ _ _ _ _ _ (World.drew _)
  have hS : (fun w' : World => Below W0.heap.size W0 w') (World.drew _) := hbd
  refine wpAnyH_take (i := 0) (v := ?_) rfl (by kernel_rfl) (by kernel_rfl) (by kernel_rfl) (fun _ _ _ h => h) (Or.inl ⟨by rfl, ?_⟩) hS ?_
  rotate_left
  · (intro w' hSw; go_simp; try (with_reducible rfl))
  change wpAnyH _ _ _ _ _ _ _ (Act.put _ (some 7) _) _
  try simp only [Act.put, List.setIfInBounds_toArray, List.set_cons_zero, List.set_cons_succ]
  refine wpAnyH_take (i := 1) (v := ?_) rfl (by kernel_rfl) (by kernel_rfl) (by kernel_rfl) (fun _ _ _ h => h) (Or.inl ⟨by rfl, ?_⟩) hS ?_
  rotate_left
  · (intro w' hSw; go_simp; try (with_reducible rfl))
  change wpAnyH _ _ _ _ _ _ _ (Act.put _ (some 8) _) _
  try simp only [Act.put, List.setIfInBounds_toArray, List.set_cons_zero, List.set_cons_succ]
  refine wpAnyH_take (i := 2) (v := .agg #[.int .i64 6, .int .i64 0, .string ⟨#[]⟩, .slice none 0 0, .slice (some ⟨qi, 0, none⟩) 2 ki, .slice (some ⟨qp, 0, none⟩) 2 kp]) rfl (by kernel_rfl) (by kernel_rfl) (by kernel_rfl) (fun _ _ _ h => h) (Or.inl ⟨by rfl, fun w' hSw => ex_ldO 28 (.tmp 8) rfl _ _ rfl (ld_val [.int .i64 6, .int .i64 0, .string ⟨#[]⟩, .slice none 0 0, .slice (some ⟨qi, 0, none⟩) 2 ki, .slice (some ⟨qp, 0, none⟩) 2 kp] rfl ((HR0.out w' hSw).cells))⟩) hS ?_
  change wpAnyH _ _ _ _ _ _ _ (Act.put _ (some 9) _) _
  try simp only [Act.put, List.setIfInBounds_toArray, List.set_cons_zero, List.set_cons_succ]
  refine wpAnyH_take (i := 3) (v := ?_) rfl (by kernel_rfl) (by kernel_rfl) (by kernel_rfl) (fun _ _ _ h => h) (Or.inl ⟨by rfl, ?_⟩) hS ?_
  rotate_left
  · (intro w' hSw; go_simp; try (with_reducible rfl))
  change wpAnyH _ _ _ _ _ _ _ (Act.put _ (some 10) _) _
  try simp only [Act.put, List.setIfInBounds_toArray, List.set_cons_zero, List.set_cons_succ]
  refine wpAnyH_take (i := 4) (v := .int .u64 1) rfl (by kernel_rfl) (by kernel_rfl) (by kernel_rfl) (fun _ _ _ h => h) (Or.inl ⟨by rfl, fun w' hSw => ex_ldO 23 (.tmp 10) rfl _ _ rfl (ld_u64 ((HO0.out w' hSw).cell (k := 2) rfl))⟩) hS ?_
  change wpAnyH _ _ _ _ _ _ _ (Act.put _ (some 11) _) _
  try simp only [Act.put, List.setIfInBounds_toArray, List.set_cons_zero, List.set_cons_succ]
  refine wpAnyH_ready (rs := [5]) (by kernel_rfl) (by simp) ?_
  refine AllReadyH.cons rfl (fun K hK => ?_) AllReadyH.nil
  rw [if_pos (by kernel_rfl)]
  go_simp
  refine (elem_at qi 2 ki 1 [2] _ _ _ _ _ rfl (by omega) (fun j v hj => own_cellJ (HI0.out _ hS) hj)).mono ?_
  rintro e w1 ⟨rfl, hb1⟩
  refine hK.out _ _ (hS.trans (hb1.mono hS.size)) (fun hS1 => ?_)
  clear hK K hS
  have hS := hS1
  clear hS1
  try simp only [Act.put, List.setIfInBounds_toArray, List.set_cons_zero, List.set_cons_succ]
  refine wpAnyH_take (i := 6) (v := ?_) rfl (by kernel_rfl) (by kernel_rfl) (by kernel_rfl) (fun _ _ _ h => h) (Or.inl ⟨by rfl, ?_⟩) hS ?_
  rotate_left
  · (intro w' hSw; go_simp; try (with_reducible rfl))
  change wpAnyH _ _ _ _ _ _ _ (Act.put _ (some 6) _) _
  try simp only [Act.put, List.setIfInBounds_toArray, List.set_cons_zero, List.set_cons_succ]
  refine wpAnyH_take (i := 7) (v := ?_) rfl (by kernel_rfl) (by kernel_rfl) (by kernel_rfl) (fun _ _ _ h => h) (Or.inl ⟨by rfl, ?_⟩) hS ?_
  rotate_left
  · (intro w' hSw; go_simp; try (with_reducible rfl))
  change wpAnyH _ _ _ _ _ _ _ (Act.put _ (some 13) _) _
  try simp only [Act.put, List.setIfInBounds_toArray, List.set_cons_zero, List.set_cons_succ]
  refine wpAnyH_take (i := 8) (v := ?_) rfl (by kernel_rfl) (by kernel_rfl) (by kernel_rfl) (fun _ _ _ h => h) (Or.inl ⟨by rfl, ?_⟩) hS ?_
  rotate_left
  · (intro w' hSw; go_simp; try (with_reducible rfl))
  change wpAnyH _ _ _ _ _ _ _ (Act.put _ (some 14) _) _
  try simp only [Act.put, List.setIfInBounds_toArray, List.set_cons_zero, List.set_cons_succ]
  refine wpAnyH_take (i := 9) (v := ?_) rfl (by kernel_rfl) (by kernel_rfl) (by kernel_rfl) (fun _ _ _ h => h) (Or.inl ⟨by rfl, ?_⟩) hS ?_
  rotate_left
  · (intro w' hSw; go_simp; try (with_reducible rfl))
  change wpAnyH _ _ _ _ _ _ _ (Act.put _ (some 4) _) _
  try simp only [Act.put, List.setIfInBounds_toArray, List.set_cons_zero, List.set_cons_succ]
  refine wpAnyH_take (i := 10) (v := ?_) rfl (by kernel_rfl) (by kernel_rfl) (by kernel_rfl) (fun _ _ _ h => h) (Or.inl ⟨by rfl, ?_⟩) hS ?_
  rotate_left
  · (intro w' hSw; go_simp; try (with_reducible rfl))
  change wpAnyH _ _ _ _ _ _ _ (Act.put _ (some 5) _) _
  try simp only [Act.put, List.setIfInBounds_toArray, List.set_cons_zero, List.set_cons_succ]
  refine wpAnyH_done (by kernel_rfl) ?_ _
  have hsz1 := hS.size
  have hr := HR0.out _ hS
  have ho := HO0.out _ hS
  have hi := HI0.out _ hS
  have hp := HP0.out _ hS
  have HBS := Lib.hid (HBW.out.trans (hS.mono HBW.out.size))
  have c0 := ho.cell (k := 0) rfl
  clear hS HR0 HO0 HI0 HP0 HBW hbd
  go_wp2_with fail
  clear c0
  generalize w1 = W at *
  have HOW := Lib.hid (fun (w' : World) (h : Only (fun j => j = g ∨ j = qi ∨ j = qp) W w') => ho.only h (show ¬ (w.heap.size = g ∨ w.heap.size = qi ∨ w.heap.size = qp) by omega))
  have hS0 : (fun w' : World => Only (fun j => j = g ∨ j = qi ∨ j = qp) W w') W.drew := (Only.refl _ W).drew
  have hr := hr.drewN 1
  have hi := hi.drew
  have hp := hp.drew
  clear ho
  refine wp_region_held (S := fun w' : World => Only (fun j => j = g ∨ j = qi ∨ j = qp) W w') (by kernel_rfl) ?_
  change wpAnyH _ _ _ _ _ _ _ _ (World.drew _)
  have hS : (fun w' : World => Only (fun j => j = g ∨ j = qi ∨ j = qp) W w') (World.drew _) := hS0
  refine wpAnyH_take (i := 0) (v := ?_) rfl (by kernel_rfl) (by kernel_rfl) (by kernel_rfl) (fun _ _ _ h => h) (Or.inl ⟨by rfl, ?_⟩) hS ?_
  rotate_left
  · (intro w' hSw; go_simp; try (with_reducible rfl))
  change wpAnyH _ _ _ _ _ _ _ (Act.put _ (some 51) _) _
  try simp only [Act.put, List.setIfInBounds_toArray, List.set_cons_zero, List.set_cons_succ]
  refine wpAnyH_take (i := 1) (v := .agg oE.toArray) rfl (by kernel_rfl) (by kernel_rfl) (by kernel_rfl) (fun _ _ _ h => h) (Or.inl ⟨by rfl, fun w' hSw => ex_ldO 30 (.tmp 3) rfl _ _ rfl (ld_opO oE rfl (HOW.out w' hSw))⟩) hS ?_
  change wpAnyH _ _ _ _ _ _ _ (Act.put _ (some 52) _) _
  try simp only [Act.put, List.setIfInBounds_toArray, List.set_cons_zero, List.set_cons_succ]
  refine wpAnyH_take (i := 2) (v := ?_) rfl (by kernel_rfl) (by kernel_rfl) (by kernel_rfl) (fun _ _ _ h => h) (Or.inl ⟨by rfl, ?_⟩) hS ?_
  rotate_left
  · (intro w' hSw; go_simp; try (with_reducible rfl))
  change wpAnyH _ _ _ _ _ _ _ (Act.put _ (some 53) _) _
  try simp only [Act.put, List.setIfInBounds_toArray, List.set_cons_zero, List.set_cons_succ]
  refine wpAnyH_take (i := 3) (v := ?_) rfl (by kernel_rfl) (by kernel_rfl) (by kernel_rfl) (fun _ _ _ h => h) (Or.inl ⟨by rfl, ?_⟩) hS ?_
  rotate_left
  · (intro w' hSw; go_simp; try (with_reducible rfl))
  change wpAnyH _ _ _ _ _ _ _ (Act.put _ (some 54) _) _
  try simp only [Act.put, List.setIfInBounds_toArray, List.set_cons_zero, List.set_cons_succ]
  refine wpAnyH_ready (rs := [4]) (by kernel_rfl) (by simp) ?_
  refine AllReadyH.cons rfl (fun K hK => ?_) AllReadyH.nil
  rw [if_pos (by kernel_rfl)]
  go_simp
  refine (goout_ex B g qi ki qp kp W.drew hgB (Nat.le_trans hBw (by have := hS.size; omega)) HKI.out HKP.out hne hr hi hp).mono ?_
  rintro e X1 ⟨rfl, hr1, hi1, hp1, ho1⟩
  have hS2 : Only (fun j => j = g ∨ j = qi ∨ j = qp) W X1 := hS.trans ho1 fun _ _ e => e
  refine hK.out _ _ (hS2) (fun hS1 => ?_)
  clear hK K hS hr hi hp ho1 hS2
  have hS := hS1
  clear hS1
  try simp only [Act.put, List.setIfInBounds_toArray, List.set_cons_zero, List.set_cons_succ]
  refine wpAnyH_ready (rs := [5]) (by kernel_rfl) (by simp) ?_
  refine AllReadyH.cons rfl (fun K hK => ?_) AllReadyH.nil
  rw [if_pos (by kernel_rfl)]
  go_simp
  refine (comein_ex B g qi ki qp kp X1 hgB (Nat.le_trans hBw (by have := hS.size; omega)) HKI.out HKP.out hne hr1 hi1 hp1).mono ?_
  rintro e X2 ⟨rfl, hr2, hi2, hp2, ho2⟩
  have hS2 : Only (fun j => j = g ∨ j = qi ∨ j = qp) W X2 := hS.trans ho2 fun _ _ e => e
  refine hK.out _ _ (hS2) (fun hS1 => ?_)
  clear hK K hS hr1 hi1 hp1 ho2 hS2
  have hS := hS1
  clear hS1
  try simp only [Act.put, List.setIfInBounds_toArray, List.set_cons_zero, List.set_cons_succ]
  refine wpAnyH_done (by kernel_rfl) ?_ _
  have HQ := Lib.hid (show Row X2 g 28 [.int .i64 6, .int .i64 0, .string ⟨#[]⟩, .slice none 0 0, .slice (some ⟨qi, 0, none⟩) 2 ki, .slice (some ⟨qp, 0, none⟩) 2 kp] ∧ X2.ownsRow B 23 1 (.slice (some ⟨qi, 0, none⟩) 2 ki) 2 [.int .u64 2, .int .u64 1] ∧ X2.ownsRow B 28 6 (.slice (some ⟨qp, 0, none⟩) 2 kp) 2 ([.int .i64 2, .int .i64 6, .string ⟨#[]⟩, .slice none 0 0, .slice none 0 0, .slice none 0 0] ++ [.int .i64 2, .int .i64 5, .string ⟨#[]⟩, .slice none 0 0, .slice none 0 0, .slice none 0 0]) ∧ Only (fun j => j = g ∨ j = qi ∨ j = qp) w X2 from ⟨hr2, hi2, hp2, (Only.of_below HBS.out _).trans hS fun _ _ e => e⟩)
  clear hr2 hi2 hp2 hS
  go_wp2_with fail
  go_end0
  exact ⟨rfl, HQ.out⟩
set_option maxHeartbeats 1600000 in
theorem apply1_ex (f : Nat) (B g qi ki qp kp : Nat) (w : World) (hgB : g < B) (hBw : B ≤ w.heap.size) (hki : 2 ≤ ki ∧ ki ≤ maxLen) (hkp : 2 ≤ kp ∧ kp ≤ maxLen) (hne : qi ≠ qp) (h : Row w g 28 [.int .i64 6, .int .i64 0, .string ⟨#[]⟩, .slice none 0 0, .slice (some ⟨qi, 0, none⟩) 2 ki, .slice (some ⟨qp, 0, none⟩) 2 kp]) (hi : w.ownsRow B 23 1 (.slice (some ⟨qi, 0, none⟩) 2 ki) 2 pI) (hp : w.ownsRow B 28 6 (.slice (some ⟨qp, 0, none⟩) 2 kp) 2 pP) (hf : Row w f 30 oE) :
    Calls Tryz.prog 36 #[.pointer (some ⟨g, 0, none⟩), .pointer (some ⟨f, 0, none⟩)] w fun e w' => e = .returned (.tuple #[]) ∧ Row w' g 28 [.int .i64 6, .int .i64 0, .string ⟨#[]⟩, .slice none 0 0, .slice (some ⟨qi, 0, none⟩) 2 ki, .slice (some ⟨qp, 0, none⟩) 2 kp] ∧ w'.ownsRow B 23 1 (.slice (some ⟨qi, 0, none⟩) 2 ki) 2 [.int .u64 2, .int .u64 1] ∧ w'.ownsRow B 28 6 (.slice (some ⟨qp, 0, none⟩) 2 kp) 2 ([.int .i64 2, .int .i64 6, .string ⟨#[]⟩, .slice none 0 0, .slice none 0 0, .slice none 0 0] ++ [.int .i64 2, .int .i64 5, .string ⟨#[]⟩, .slice none 0 0, .slice none 0 0, .slice none 0 0]) ∧ Only (fun j => j = g ∨ j = qi ∨ j = qp) w w' := by
  have HC := Lib.hid (change_ex B g qi ki qp kp w hgB hBw hki hkp hne h hi hp)
  have HF := Lib.hid hf
  clear h hi hp hf
  go_enter Tryz.func36, Tryz.ntmps36
  go_wp2_with (refine wpList_load_row rfl 30 (.tmp 1) rfl f rfl 30 _ (0, 0) _ HF.out Tryz.underlying30 rfl o_info ?_)
  refine HC.out.mono ?_
  rintro e W1 ⟨rfl, hq⟩
  have HQ := Lib.hid hq
  clear hq
  go_wp2_with fail
  go_end0
  exact ⟨rfl, HQ.out⟩
set_option maxHeartbeats 1600000 in
theorem atV_ex (f : Nat) (B g qi ki qp kp : Nat) (w : World) (hgB : g < B) (hBw : B ≤ w.heap.size) (hki : 2 ≤ ki ∧ ki ≤ maxLen) (hkp : 2 ≤ kp ∧ kp ≤ maxLen) (hne : qi ≠ qp) (h : Row w g 28 [.int .i64 6, .int .i64 0, .string ⟨#[]⟩, .slice none 0 0, .slice (some ⟨qi, 0, none⟩) 2 ki, .slice (some ⟨qp, 0, none⟩) 2 kp]) (hi : w.ownsRow B 23 1 (.slice (some ⟨qi, 0, none⟩) 2 ki) 2 pI) (hp : w.ownsRow B 28 6 (.slice (some ⟨qp, 0, none⟩) 2 kp) 2 pP) (hf : Row w f 30 oE) :
    Calls Tryz.prog 34 #[.pointer (some ⟨g, 0, none⟩), .slice none 0 0, .func (.func 35) #[] #[], .func (.func 36) #[] #[.pointer (some ⟨f, 0, none⟩)]] w fun e w' => e = .returned (.bool true) ∧ Row w' g 28 [.int .i64 6, .int .i64 0, .string ⟨#[]⟩, .slice none 0 0, .slice (some ⟨qi, 0, none⟩) 2 ki, .slice (some ⟨qp, 0, none⟩) 2 kp] ∧ w'.ownsRow B 23 1 (.slice (some ⟨qi, 0, none⟩) 2 ki) 2 [.int .u64 2, .int .u64 1] ∧ w'.ownsRow B 28 6 (.slice (some ⟨qp, 0, none⟩) 2 kp) 2 ([.int .i64 2, .int .i64 6, .string ⟨#[]⟩, .slice none 0 0, .slice none 0 0, .slice none 0 0] ++ [.int .i64 2, .int .i64 5, .string ⟨#[]⟩, .slice none 0 0, .slice none 0 0, .slice none 0 0]) ∧ Only (fun j => j = g ∨ j = qi ∨ j = qp) w w' := by
  have HT := Lib.hid (apply1_ex f B g qi ki qp kp w hgB hBw hki hkp hne h hi hp hf)
  clear h hi hp hf
  go_enter Tryz.func34, Tryz.ntmps34
  go_wp2_with fail
  refine wp_loop_rounds 1 ?_
  rw [rounds_succ]
  go_wp2_with fail
  refine HT.out.mono ?_
  rintro e W1 ⟨rfl, hq⟩
  have HQ := Lib.hid hq
  clear hq
  go_wp2_with fail
  go_ret
  exact ⟨rfl, HQ.out⟩
end

section
set_option maxRecDepth 100000
set_option linter.unusedSimpArgs false
set_option linter.unusedVariables false
open Go.RowKit

theorem own_unlikeJ {w : World} {B B' : Nat} {z z' n n' : Nat} {v u : Value} {xs ys : List Value} {e e' : TypeId} (hne : e ≠ e') (h : w.ownsRow B e z v n xs) (h' : w.ownsRow B' e' z' u n' ys) : ∀ q, v.ownBlock = some q → u.ownBlock ≠ some q := by
  intro q hq hq'
  rcases h.2 with h | ⟨g, cap, cur, rfl, _, hh, _⟩
  · rw [h.1] at hq; cases hq
  rcases h'.2 with h' | ⟨g', cap', cur', rfl, _, hh', _⟩
  · rw [h'.1] at hq'; cases hq'
  cases hq
  cases hq'
  rw [hh] at hh'
  cases hh'
  exact hne rfl
def exN (n : Int) : Vt := .mk 2 n ⟨#[]⟩ [] [] 0 fun _ => .nul
def exM : Vt := .mk 6 0 ⟨#[]⟩ [] [1, 2] 2 fun j => if j = 0 then exN 5 else exN 6
def exS : St := .mk 6 [] 1 fun _ => .mk 2 [] 0 fun _ => .nul
abbrev exD (n : Int) : List Value := [.int .i64 2, .int .i64 n, .string ⟨#[]⟩, .slice none 0 0, .slice none 0 0, .slice none 0 0]
theorem exN_at (w : World) (n : Int) (hn : (Lit.int .i64 n).wf = true) : VAt w (exN n) (exD n) := by
  refine .mk (fun _ => []) rfl hn (by decide) ⟨rfl, fun h => absurd h (by omega)⟩ ⟨Nat.le_refl _, by decide⟩ (fun x hx => by cases hx) ⟨rfl, fun h => absurd h (by omega)⟩ ⟨Nat.le_refl _, by decide⟩ (fun x hx => by cases hx) (fun h => absurd h (by omega)) ⟨Nat.le_refl _, by decide⟩ (fun j hj => absurd hj (by omega))
theorem exM_at {w : World} {B : Nat} {v u : Value} (hv : w.ownsRow B 23 1 v 2 pI) (hu : w.ownsRow B 28 6 u 2 pP) : VAt w exM [.int .i64 6, .int .i64 0, .string ⟨#[]⟩, .slice none 0 0, v, u] := by
  obtain ⟨a, ca, rfl, ha, hca, _⟩ := own_rd hv
  obtain ⟨c, cc, rfl, hc, hcc⟩ := own_parts (css := fun j => if j = 0 then exD 5 else exD 6) (fun j hj => by by_cases h : j = 0 <;> simp [h, exD]) (show w.ownsRow B 28 6 u 2 ((List.range 2).flatMap _) from hu)
  refine .mk (fun j => if j = 0 then exD 5 else exD 6) rfl rfl (by decide) ⟨rfl, fun h => absurd h (by omega)⟩ ⟨Nat.le_refl _, by decide⟩ (fun x hx => by cases hx) (Rd.weak ha fun _ _ => trivial) hca (fun x hx => by simp at hx; rcases hx with rfl | rfl <;> decide) hc.plain hcc (fun j hj => ?_)
  by_cases h : j = 0
  · simp only [h, if_true]; exact exN_at w 5 (by decide)
  · simp only [h, if_false]; exact exN_at w 6 (by decide)
theorem exS_at {w : World} {pb pcap : Nat} (h : Cells w pb pS) (hc : 1 ≤ pcap ∧ pcap ≤ maxLen) : SAt w exS (sA pb pcap) := by
  refine .mk (fun _ => pS) rfl ⟨rfl, fun h => absurd h (by omega)⟩ ⟨Nat.le_refl _, by decide⟩ (fun x hx => by cases hx) (fun _ => ⟨⟨pb, 0, none⟩, rfl, lt_of_cell (h 0 _ rfl), fun j hj => ⟨rfl, fun i u hu => ?_⟩⟩) hc (fun j hj => ?_)
  · obtain rfl : j = 0 := by omega
    rw [add0J, Nat.zero_mul, Nat.zero_add]
    exact h i u hu
  · exact .mk (fun _ => []) rfl ⟨rfl, fun h => absurd h (by omega)⟩ ⟨Nat.le_refl _, by decide⟩ (fun x hx => by cases hx) (fun h => absurd h (by omega)) ⟨Nat.le_refl _, by decide⟩ (fun j hj => absurd hj (by omega))
theorem ex_fits : (exM.rightAt 1 && exS.rightAt 1 && fitsV exM exS) = true := by decide +kernel
theorem ex_right : rightO 4 [] 1 2 zV = true := by decide +kernel
set_option maxHeartbeats 6400000 in
theorem apply_ex (pb pcap ib icap pv vcap lb : Nat) (w : World) (hpc : 1 ≤ pcap ∧ pcap ≤ maxLen) (hP : Cells w pb pS) (hpl : Plain w pb) (hI : Cells w ib pI) (hV : Cells w pv pP) (hvl : Plain w pv) (hl : Row w lb 30 oE) :
    Calls Tryz.prog 15 #[.agg (sA pb pcap).toArray, .agg #[.int .i64 6, .int .i64 0, .string ⟨#[]⟩, .slice none 0 0, .slice (some ⟨ib, 0, none⟩) 2 icap, .slice (some ⟨pv, 0, none⟩) 2 vcap], .slice (some ⟨lb, 0, none⟩) 1 1] w fun e w' => ∃ qi ki qp kp, e = .returned (.agg #[.int .i64 6, .int .i64 0, .string ⟨#[]⟩, .slice none 0 0, .slice (some ⟨qi, 0, none⟩) 2 ki, .slice (some ⟨qp, 0, none⟩) 2 kp]) ∧ w'.ownsRow w.heap.size 23 1 (.slice (some ⟨qi, 0, none⟩) 2 ki) 2 [.int .u64 2, .int .u64 1] ∧ w'.ownsRow w.heap.size 28 6 (.slice (some ⟨qp, 0, none⟩) 2 kp) 2 ([.int .i64 2, .int .i64 6, .string ⟨#[]⟩, .slice none 0 0, .slice none 0 0, .slice none 0 0] ++ [.int .i64 2, .int .i64 5, .string ⟨#[]⟩, .slice none 0 0, .slice none 0 0, .slice none 0 0]) ∧ Below w.heap.size w w' := by
  have hb0 := Below.alloc3 w (.cells (sA pb pcap).toArray 48) (.cells #[.int .i64 6, .int .i64 0, .string ⟨#[]⟩, .slice none 0 0, .slice (some ⟨ib, 0, none⟩) 2 icap, .slice (some ⟨pv, 0, none⟩) 2 vcap] 28) (.cells #[.int .i64 0, .int .i64 0, .string ⟨#[]⟩, .slice none 0 0, .slice none 0 0, .slice none 0 0] 28)
  have hrs := ((Row.new w (sA pb pcap) 48).alloc (.cells #[.int .i64 6, .int .i64 0, .string ⟨#[]⟩, .slice none 0 0, .slice (some ⟨ib, 0, none⟩) 2 icap, .slice (some ⟨pv, 0, none⟩) 2 vcap] 28)).alloc (.cells #[.int .i64 0, .int .i64 0, .string ⟨#[]⟩, .slice none 0 0, .slice none 0 0, .slice none 0 0] 28)
  have hrv := (Row.new1 w (.cells (sA pb pcap).toArray 48) [.int .i64 6, .int .i64 0, .string ⟨#[]⟩, .slice none 0 0, .slice (some ⟨ib, 0, none⟩) 2 icap, .slice (some ⟨pv, 0, none⟩) 2 vcap] 28).alloc (.cells #[.int .i64 0, .int .i64 0, .string ⟨#[]⟩, .slice none 0 0, .slice none 0 0, .slice none 0 0] 28)
  have hrr := Row.new2 w (.cells (sA pb pcap).toArray 48) (.cells #[.int .i64 6, .int .i64 0, .string ⟨#[]⟩, .slice none 0 0, .slice (some ⟨ib, 0, none⟩) 2 icap, .slice (some ⟨pv, 0, none⟩) 2 vcap] 28) [.int .i64 0, .int .i64 0, .string ⟨#[]⟩, .slice none 0 0, .slice none 0 0, .slice none 0 0] 28
  have hsz : (((w.alloc (.cells (sA pb pcap).toArray 48)).alloc (.cells #[.int .i64 6, .int .i64 0, .string ⟨#[]⟩, .slice none 0 0, .slice (some ⟨ib, 0, none⟩) 2 icap, .slice (some ⟨pv, 0, none⟩) 2 vcap] 28)).alloc (.cells #[.int .i64 0, .int .i64 0, .string ⟨#[]⟩, .slice none 0 0, .slice none 0 0, .slice none 0 0] 28)).heap.size = w.heap.size + 3 := by simp
  have HC := Lib.hid (vcopy_V2 ib icap pv vcap _ (hI.below hb0) (hV.below hb0) (hvl.below hb0 hvl.lt))
  have HPC := Lib.hid hpc
  have HP := Lib.hid (fun (w' : World) (hb : Below w.heap.size w w') => hP.below hb)
  have HPL := Lib.hid (fun (w' : World) (hb : Below w.heap.size w w') => hpl.below hb hpl.lt)
  have HL := Lib.hid (fun (w' : World) (hb : Below w.heap.size w w') => hl.belowAll hb)
  have HB0 := Lib.hid hb0
  have HRS := Lib.hid hrs
  have HRV := Lib.hid hrv
  have HRR := Lib.hid hrr
  clear hpc hP hpl hI hV hvl hl hb0 hrs hrv hrr
  go_enter Tryz.func15, Tryz.ntmps15
  go_wp2_with (refine wpList_load_row rfl 28 (.tmp 4) rfl (w.heap.size + 1) rfl 28 _ (0, 0) _ HRV.out Tryz.underlying28 rfl (v_info6 _ _ _ _ _ _) ?_)
  refine HC.out.mono ?_
  rintro e W1 ⟨qi, ki, qp, kp, rfl, hi, hp, hb⟩
  have hs1 := hb.size
  obtain ⟨gi, ci, ei, hgi, hki, hkm, _⟩ := own_formJ (by omega) hi
  obtain ⟨gp, cp, ep, hgp, hpi, hpm, _⟩ := own_formJ (by omega) hp
  have hne : qi ≠ qp := fun e => by
    subst e
    exact own_unlikeJ (by decide) hi hp qi rfl rfl
  injection ei with ei1 ei2 ei3
  injection ep with ep1 ep2 ep3
  injection ei1 with ei1
  injection ei1 with ei1
  injection ep1 with ep1
  injection ep1 with ep1
  subst ei1 ei3 ep1 ep3
  rw [hsz] at hi hp hgi hgp hs1
  have hb1 := below_more HB0.out hb
  have hrv1 := HRV.out.belowAll hb
  have HRS1 := Lib.hid (HRS.out.belowAll hb)
  have HRR1 := Lib.hid (HRR.out.belowAll hb)
  have hO := only_setRow W1 (w.heap.size + 1) #[.int .i64 6, .int .i64 0, .string ⟨#[]⟩, .slice none 0 0, .slice (some ⟨qi, 0, none⟩) 2 ki, .slice (some ⟨qp, 0, none⟩) 2 kp]
  have HRV2 := Lib.hid (setRow_heap W1 (w.heap.size + 1) _ #[.int .i64 6, .int .i64 0, .string ⟨#[]⟩, .slice none 0 0, .slice (some ⟨qi, 0, none⟩) 2 ki, .slice (some ⟨qp, 0, none⟩) 2 kp] _ _ hrv1)
  have HRS2 := Lib.hid (HRS1.out.only hO (by omega))
  have HRR2 := Lib.hid (HRR1.out.only hO (by omega))
  have HI2 := Lib.hid (own_only hi hO fun j hj e => by injection hj with hj; have hj2 : qi = j := hj; have e2 : j = w.heap.size + 1 := e; omega)
  have HP2 := Lib.hid (own_only hp hO fun j hj e => by injection hj with hj; have hj2 : qp = j := hj; have e2 : j = w.heap.size + 1 := e; omega)
  have HB2 := Lib.hid (below_setRow hb1 (g := w.heap.size + 1) (by omega) #[.int .i64 6, .int .i64 0, .string ⟨#[]⟩, .slice none 0 0, .slice (some ⟨qi, 0, none⟩) 2 ki, .slice (some ⟨qp, 0, none⟩) 2 kp])
  have hs2 : (W1.setRow (w.heap.size + 1) #[.int .i64 6, .int .i64 0, .string ⟨#[]⟩, .slice none 0 0, .slice (some ⟨qi, 0, none⟩) 2 ki, .slice (some ⟨qp, 0, none⟩) 2 kp]).heap.size = W1.heap.size := by simp
  have HRV1 := Lib.hid hrv1
  have HFI := Lib.hid (fits_all exM exS [.int .i64 6, .int .i64 0, .string ⟨#[]⟩, .slice none 0 0, .slice (some ⟨qi, 0, none⟩) 2 ki, .slice (some ⟨qp, 0, none⟩) 2 kp] (sA pb pcap) _ (exM_at HI2.out HP2.out) (exS_at (HP.out _ HB2.out) HPC.out))
  rw [ex_fits] at HFI
  obtain ⟨W2, hW2⟩ : ∃ W, W1.setRow (w.heap.size + 1) #[.int .i64 6, .int .i64 0, .string ⟨#[]⟩, .slice none 0 0, .slice (some ⟨qi, 0, none⟩) 2 ki, .slice (some ⟨qp, 0, none⟩) 2 kp] = W := ⟨_, rfl⟩
  rw [hW2] at HRV2 HRS2 HRR2 HI2 HP2 HB2 hs2 HFI
  have HW2 := Lib.hid hW2
  clear hi hp hb hb1 hrv1 hO hW2
  go_wp2_with (first
    | (refine wpList_store_row rfl 28 (.tmp 4) (.tmp 10) rfl (w.heap.size + 1) #[.int .i64 6, .int .i64 0, .string ⟨#[]⟩, .slice none 0 0, .slice (some ⟨qi, 0, none⟩) 2 ki, .slice (some ⟨qp, 0, none⟩) 2 kp] rfl rfl 28 _ HRV1.out (v_info6 _ _ _ _ _ _) rfl (by simp [Value.oneCell']) ?_; rw [HW2.out])
    | (refine wpList_load_row rfl 28 (.tmp 4) rfl (w.heap.size + 1) rfl 28 _ (0, 0) _ HRV2.out Tryz.underlying28 rfl (v_info6 _ _ _ _ _ _) ?_)
    | (refine wpList_load_row rfl 48 (.tmp 3) rfl w.heap.size rfl 48 _ (0, 0) _ HRS2.out Tryz.underlying48 rfl sch_info ?_))
  refine HFI.out.mono ?_
  rintro e W3 ⟨rfl, hb⟩
  have hs3 := hb.size
  have HRV3 := Lib.hid (show Row W3 (w.heap.size + 1) 28 [.int .i64 6, .int .i64 0, .string ⟨#[]⟩, .slice none 0 0, .slice (some ⟨qi, 0, none⟩) 2 ki, .slice (some ⟨qp, 0, none⟩) 2 kp] from Row.belowAll HRV2.out hb)
  have HRS3 := Lib.hid (HRS2.out.belowAll hb)
  have HRR3 := Lib.hid (HRR2.out.belowAll hb)
  have HI3 := Lib.hid (own_below HI2.out hb)
  have HP3 := Lib.hid (own_below HP2.out hb)
  have HB3 := Lib.hid (below_more HB2.out hb)
  clear hb HRV1 HRV2 HRS2 HRR2 HI2 HP2 HW2 HFI HRS1 HRR1
  have HL3 := Lib.hid (HL.out _ HB3.out)
  go_wp2_with fail
  refine wp_loop_rounds 2 ?_
  rw [rounds_succ]
  have hb4 := below_newO W3 (.cells oE.toArray 30)
  have HN4 := Lib.hid (Row.new W3 oE 30)
  have HRT := Lib.hid (oright_any 4 none 0 0 [] 1 2 0 0 ⟨#[]⟩ none 0 0 none 0 0 none 0 0 zV (by omega) (W3.alloc (.cells oE.toArray 30)) ⟨rfl, fun h => absurd h (Nat.lt_irrefl 0)⟩ (by simp) (vat_z _))
  rw [ex_right] at HRT
  go_wp2_with (first
    | (refine wpList_load_row rfl 30 (.tmp 20) rfl lb rfl 30 _ (0, 0) _ HL3.out Tryz.underlying30 rfl o_info ?_)
    | (refine wpList_load_row rfl 30 (.tmp 8) rfl W3.heap.size rfl 30 _ (0, 0) _ HN4.out Tryz.underlying30 rfl o_info ?_))
  refine HRT.out.mono ?_
  rintro e W5 ⟨rfl, hb⟩
  have hb5 := below_more hb4 hb
  have HN5 := Lib.hid (HN4.out.belowAll hb)
  have HRS5 := Lib.hid (HRS3.out.belowAll hb5)
  have HFT := Lib.hid (ofits_ex pb pcap W5 (HP.out _ (below_more HB3.out hb5)) (HPL.out _ (below_more HB3.out hb5)))
  clear hb hb4 HRT
  go_wp2_with (first
    | (refine wpList_load_guarded (by rfl) 30 (.tmp 8) rfl W3.heap.size rfl 30 _ HN5.out Tryz.underlying30 rfl o_info ?_)
    | (refine wpList_load_guarded (by rfl) 48 (.tmp 3) rfl w.heap.size rfl 48 _ HRS5.out Tryz.underlying48 rfl sch_info ?_))
  refine HFT.out.mono ?_
  rintro e W6 ⟨rfl, hb⟩
  have hb6 := below_more hb5 hb
  have hs6 := hb6.size
  have HN6 := Lib.hid (HN5.out.belowAll hb)
  have c1 := HN6.out.cell (k := 1) rfl
  have hlt8 := HN6.out.lt
  have HAT := Lib.hid (atV_ex W3.heap.size (w.heap.size + 3) (w.heap.size + 1) qi ki qp kp W6 (by omega) (by omega) ⟨hki, hkm⟩ ⟨hpi, hpm⟩ hne (HRV3.out.belowAll hb6) (own_below HI3.out hb6) (own_below HP3.out hb6) HN6.out)
  have HRR6 := Lib.hid (HRR3.out.belowAll hb6)
  have HB6 := Lib.hid (below_more HB3.out hb6)
  clear hb hb5 hb6 HFT HN5 HRS5
  go_wp2_with fail
  refine HAT.out.mono ?_
  rintro e W7 ⟨rfl, hr7, hi7, hp7, hO7⟩
  have HR7 := Lib.hid hr7
  have HI7 := Lib.hid hi7
  have HP7 := Lib.hid hp7
  have HRR7 := Lib.hid (HRR6.out.only hO7 (by omega))
  have HB7 := Lib.hid (HB6.out.trans (hO7.below (B := w.heap.size) HB6.out.size (fun j hj => by rcases hj with e | e | e <;> omega)))
  clear hr7 hi7 hp7 hO7 c1 HAT
  go_wp2_with fail
  rw [rounds_succ]
  go_wp2_with (first
    | (refine wpList_load_row rfl 28 (.tmp 4) rfl (w.heap.size + 1) rfl 28 _ (0, 0) _ HR7.out Tryz.underlying28 rfl (v_info6 _ _ _ _ _ _) ?_)
    | (refine wpList_store_row rfl 28 (.tmp 6) (.tmp 34) rfl (w.heap.size + 1 + 1) #[.int .i64 6, .int .i64 0, .string ⟨#[]⟩, .slice none 0 0, .slice (some ⟨qi, 0, none⟩) 2 ki, .slice (some ⟨qp, 0, none⟩) 2 kp] rfl rfl 28 _ HRR7.out (v_info6 _ _ _ _ _ _) rfl (by simp [Value.oneCell']) ?_))
  have hgot := setRow_heap W7 (w.heap.size + 1 + 1) _ #[.int .i64 6, .int .i64 0, .string ⟨#[]⟩, .slice none 0 0, .slice (some ⟨qi, 0, none⟩) 2 ki, .slice (some ⟨qp, 0, none⟩) 2 kp] _ _ HRR7.out
  (try simp only [Exit.inBlock, Exit.then])
  refine bodyPost_ret (results_cell_row (by rfl) _ _ (w.heap.size + 1 + 1) _ _ _ _ (by rfl) hgot Tryz.underlying28 rfl (v_info6 _ _ _ _ _ _)) rfl ?_
  have hO2 := only_setRow W7 (w.heap.size + 1 + 1) #[.int .i64 6, .int .i64 0, .string ⟨#[]⟩, .slice none 0 0, .slice (some ⟨qi, 0, none⟩) 2 ki, .slice (some ⟨qp, 0, none⟩) 2 kp]
  exact ⟨qi, ki, qp, kp, rfl, own_base (own_only HI7.out hO2 fun j hj e => by injection hj with hj; have hj2 : qi = j := hj; have e2 : j = w.heap.size + 1 + 1 := e; omega) (by omega), own_base (own_only HP7.out hO2 fun j hj e => by injection hj with hj; have hj2 : qp = j := hj; have e2 : j = w.heap.size + 1 + 1 := e; omega) (by omega), below_setRow HB7.out (by omega) _⟩
end

section
set_option maxRecDepth 100000
set_option linter.unusedSimpArgs false
set_option linter.unusedVariables false
open Go.RowKit

set_option maxHeartbeats 6400000 in
theorem awake12 (w : World) : Calls Tryz.prog 5 #[] w fun e w' => e = .returned (.bool true) ∧ Below w.heap.size w w' := by
  have q0 := (Row.new w pS 48)
  have q1 := (row_atJ (w.alloc (.cells pS.toArray 48)) (sA w.heap.size 1) 48 (w.heap.size + 1) (by simp))
  have q2 := (row_atJ ((w.alloc (.cells pS.toArray 48)).alloc (.cells (sA w.heap.size 1).toArray 48)) pI 23 (w.heap.size + 2) (by simp))
  have q3 := (row_atJ (((w.alloc (.cells pS.toArray 48)).alloc (.cells (sA w.heap.size 1).toArray 48)).alloc (.cells pI.toArray 23)) pP 28 (w.heap.size + 3) (by simp))
  have q4 := (row_atJ ((((w.alloc (.cells pS.toArray 48)).alloc (.cells (sA w.heap.size 1).toArray 48)).alloc (.cells pI.toArray 23)).alloc (.cells pP.toArray 28)) [.int .i64 6, .int .i64 0, .string ⟨#[]⟩, .slice none 0 0, .slice (some ⟨w.heap.size + 2, 0, none⟩) 2 2, .slice (some ⟨w.heap.size + 3, 0, none⟩) 2 2] 28 (w.heap.size + 4) (by simp))
  have q5 := (row_atJ (((((w.alloc (.cells pS.toArray 48)).alloc (.cells (sA w.heap.size 1).toArray 48)).alloc (.cells pI.toArray 23)).alloc (.cells pP.toArray 28)).alloc (.cells #[.int .i64 6, .int .i64 0, .string ⟨#[]⟩, .slice none 0 0, .slice (some ⟨w.heap.size + 2, 0, none⟩) 2 2, .slice (some ⟨w.heap.size + 3, 0, none⟩) 2 2] 28)) oE 30 (w.heap.size + 5) (by simp))
  have q0 := q0.alloc (.cells (sA w.heap.size 1).toArray 48)
  have q0 := q0.alloc (.cells pI.toArray 23)
  have q0 := q0.alloc (.cells pP.toArray 28)
  have q0 := q0.alloc (.cells #[.int .i64 6, .int .i64 0, .string ⟨#[]⟩, .slice none 0 0, .slice (some ⟨w.heap.size + 2, 0, none⟩) 2 2, .slice (some ⟨w.heap.size + 3, 0, none⟩) 2 2] 28)
  have q0 := q0.alloc (.cells oE.toArray 30)
  have q1 := q1.alloc (.cells pI.toArray 23)
  have q1 := q1.alloc (.cells pP.toArray 28)
  have q1 := q1.alloc (.cells #[.int .i64 6, .int .i64 0, .string ⟨#[]⟩, .slice none 0 0, .slice (some ⟨w.heap.size + 2, 0, none⟩) 2 2, .slice (some ⟨w.heap.size + 3, 0, none⟩) 2 2] 28)
  have q1 := q1.alloc (.cells oE.toArray 30)
  have q2 := q2.alloc (.cells pP.toArray 28)
  have q2 := q2.alloc (.cells #[.int .i64 6, .int .i64 0, .string ⟨#[]⟩, .slice none 0 0, .slice (some ⟨w.heap.size + 2, 0, none⟩) 2 2, .slice (some ⟨w.heap.size + 3, 0, none⟩) 2 2] 28)
  have q2 := q2.alloc (.cells oE.toArray 30)
  have q3 := q3.alloc (.cells #[.int .i64 6, .int .i64 0, .string ⟨#[]⟩, .slice none 0 0, .slice (some ⟨w.heap.size + 2, 0, none⟩) 2 2, .slice (some ⟨w.heap.size + 3, 0, none⟩) 2 2] 28)
  have q3 := q3.alloc (.cells oE.toArray 30)
  have q4 := q4.alloc (.cells oE.toArray 30)
  have hb := (((((((Below.refl w.heap.size w).alloc (Nat.le_refl _) (.cells pS.toArray 48)).alloc (by simp; try omega) (.cells (sA w.heap.size 1).toArray 48)).alloc (by simp; try omega) (.cells pI.toArray 23)).alloc (by simp; try omega) (.cells pP.toArray 28)).alloc (by simp; try omega) (.cells #[.int .i64 6, .int .i64 0, .string ⟨#[]⟩, .slice none 0 0, .slice (some ⟨w.heap.size + 2, 0, none⟩) 2 2, .slice (some ⟨w.heap.size + 3, 0, none⟩) 2 2] 28)).alloc (by simp; try omega) (.cells oE.toArray 30))
  have HB := Lib.hid hb
  have HS := Lib.hid q1
  have HV := Lib.hid q4
  have HA := Lib.hid (apply_ex w.heap.size 1 (w.heap.size + 2) 2 (w.heap.size + 3) 2 (w.heap.size + 5) _ ⟨Nat.le_refl _, by decide⟩ q0.cells q0.plain q2.cells q3.cells q3.plain q5)
  clear q0 q1 q2 q3 q4 q5 hb
  go_enter Tryz.func5, Tryz.ntmps5
  go_wp2_with fail
  refine HA.out.mono ?_
  rintro e W1 ⟨qi, ki, qp, kp, rfl, hi, hp, hb⟩
  have hn := Row.new W1 [.int .i64 6, .int .i64 0, .string ⟨#[]⟩, .slice none 0 0, .slice (some ⟨qi, 0, none⟩) 2 ki, .slice (some ⟨qp, 0, none⟩) 2 kp] 28
  have c4 := hn.cell (k := 4) rfl
  have c5 := hn.cell (k := 5) rfl
  have d0 := own_cellJ (hi.alloc (.cells #[.int .i64 6, .int .i64 0, .string ⟨#[]⟩, .slice none 0 0, .slice (some ⟨qi, 0, none⟩) 2 ki, .slice (some ⟨qp, 0, none⟩) 2 kp] 28)) (k := 0) rfl
  have e1 := own_cellJ (hp.alloc (.cells #[.int .i64 6, .int .i64 0, .string ⟨#[]⟩, .slice none 0 0, .slice (some ⟨qi, 0, none⟩) 2 ki, .slice (some ⟨qp, 0, none⟩) 2 kp] 28)) (k := 1) rfl
  have hbz := HB.out.trans (hb.mono HB.out.size)
  have HBZ := Lib.hid (hbz.alloc hbz.size (.cells #[.int .i64 6, .int .i64 0, .string ⟨#[]⟩, .slice none 0 0, .slice (some ⟨qi, 0, none⟩) 2 ki, .slice (some ⟨qp, 0, none⟩) 2 kp] 28))
  clear hn hi hp hb hbz
  go_wp2_with fail
  go_ret
  exact ⟨rfl, HBZ.out⟩
end

end Go.Proofs.YtmiadkhfjkaidaaGreatDoor
