/- What was taken out laid in again, behind the other. -/
import Derived.Test.YtmiadkhfjkaidaaGreatDoorMg40
namespace Go.Proofs.YtmiadkhfjkaidaaGreatDoor
section
set_option maxRecDepth 100000
set_option linter.unusedSimpArgs false
set_option linter.unusedVariables false
open Go.RowKit

theorem wp_loadO {P : Program} {o : Oper} {a : Act} {w : World} {K : Act → World → Prop} {Q : Exit → Act → World → Prop} (T : TypeId) (x : Operand) (ho : o.op = .load T x) (u r : Value) (hx : a.eval x = u) (hi : (Instr.loadAt T u).run P w = .ok r w) (h : K (a.put o.dst r) w) : o.wp P a w K Q := by
  unfold Oper.wp execOp
  simp only [ho, hx, Sem.run_bind, Sem.run_pure, Result.andThen_ok, hi]
  exact h
theorem wp_build1u {o : Oper} {a : Act} {w : World} {K : Act → World → Prop} {Q : Exit → Act → World → Prop} (x : Operand) (ho : o.op = .buildSlice 25 1 #[(0, x)]) (k : Int) (hx : a.eval x = .int .u64 k)
    (h : K (a.put o.dst (.slice (some ⟨w.heap.size, 0, none⟩) 1 1)) (w.alloc (.cells #[.int .u64 k] 23))) : o.wp Tryz.prog a w K Q := by
  obtain ⟨i, z, hi, hz, hs, hb, hzs⟩ := info_u64J
  have hi2 : Tryz.prog.info? 23 = some (Tryz.prog.info? 23).get! := by kernel_rfl
  have hz2 : (Tryz.prog.info? 23).get!.zero = some (.int .u64 0) := by kernel_rfl
  have hsz : (Tryz.prog.info? 23).get!.size = 1 := by kernel_rfl
  refine wp_buildSlice 25 23 1 _ ho #[.int .u64 k] _ _ Tryz.underlying25 hi2 hz2 (by rw [hsz]; decide) (by rw [hsz]; decide) ?_ h
  rw [hsz]
  simp only [List.map_toArray, List.map_cons, List.map_nil, hx]
  kernel_rfl
theorem wp_build1v {o : Oper} {a : Act} {w : World} {K : Act → World → Prop} {Q : Exit → Act → World → Prop} (x : Operand) (ho : o.op = .buildSlice 26 1 #[(0, x)]) (hx : a.eval x = .agg #[.int .i64 2, .int .i64 5, .string ⟨#[]⟩, .slice none 0 0, .slice none 0 0, .slice none 0 0])
    (h : K (a.put o.dst (.slice (some ⟨w.heap.size, 0, none⟩) 1 1)) (w.alloc (.cells #[.int .i64 2, .int .i64 5, .string ⟨#[]⟩, .slice none 0 0, .slice none 0 0, .slice none 0 0] 28))) : o.wp Tryz.prog a w K Q := by
  have hi2 : Tryz.prog.info? 28 = some (Tryz.prog.info? 28).get! := by kernel_rfl
  have hz2 : (Tryz.prog.info? 28).get!.zero = some (.agg #[.int .i64 0, .int .i64 0, .string ⟨#[]⟩, .slice none 0 0, .slice none 0 0, .slice none 0 0]) := by kernel_rfl
  have hsz : (Tryz.prog.info? 28).get!.size = 6 := by kernel_rfl
  refine wp_buildSlice 26 28 1 _ ho #[.int .i64 2, .int .i64 5, .string ⟨#[]⟩, .slice none 0 0, .slice none 0 0, .slice none 0 0] _ _ Tryz.underlying26 hi2 hz2 (by rw [hsz]; decide) (by rw [hsz]; decide) ?_ h
  rw [hsz]
  simp only [List.map_toArray, List.map_cons, List.map_nil, hx]
  kernel_rfl
set_option maxHeartbeats 12800000 in
theorem comein_ex (B g qi ki qp kp : Nat) (w : World) (hgB : g < B) (hBw : B ≤ w.heap.size) (hki : 2 ≤ ki ∧ ki ≤ maxLen) (hkp : 2 ≤ kp ∧ kp ≤ maxLen) (hne : qi ≠ qp) (h : Row w g 28 [.int .i64 6, .int .i64 0, .string ⟨#[]⟩, .slice none 0 0, .slice (some ⟨qi, 0, none⟩) 1 ki, .slice (some ⟨qp, 0, none⟩) 1 kp]) (hi : w.ownsRow B 23 1 (.slice (some ⟨qi, 0, none⟩) 1 ki) 1 [.int .u64 2]) (hp : w.ownsRow B 28 6 (.slice (some ⟨qp, 0, none⟩) 1 kp) 1 [.int .i64 2, .int .i64 6, .string ⟨#[]⟩, .slice none 0 0, .slice none 0 0, .slice none 0 0]) :
    Calls Tryz.prog 76 #[.pointer (some ⟨g, 0, none⟩), .agg oE.toArray, .agg #[.int .i64 2, .int .i64 5, .string ⟨#[]⟩, .slice none 0 0, .slice none 0 0, .slice none 0 0]] w fun e w' => e = .returned (.tuple #[]) ∧ Row w' g 28 [.int .i64 6, .int .i64 0, .string ⟨#[]⟩, .slice none 0 0, .slice (some ⟨qi, 0, none⟩) 2 ki, .slice (some ⟨qp, 0, none⟩) 2 kp] ∧ w'.ownsRow B 23 1 (.slice (some ⟨qi, 0, none⟩) 2 ki) 2 [.int .u64 2, .int .u64 1] ∧ w'.ownsRow B 28 6 (.slice (some ⟨qp, 0, none⟩) 2 kp) 2 ([.int .i64 2, .int .i64 6, .string ⟨#[]⟩, .slice none 0 0, .slice none 0 0, .slice none 0 0] ++ [.int .i64 2, .int .i64 5, .string ⟨#[]⟩, .slice none 0 0, .slice none 0 0, .slice none 0 0]) ∧ Only (fun j => j = g ∨ j = qi ∨ j = qp) w w' := by
  have hgi : g ≠ qi := by have := (hi.lt qi rfl).1; omega
  have hgp : g ≠ qp := by have := (hp.lt qp rfl).1; omega
  have hlt := h.lt
  have hpi := (hi.lt qi rfl).2
  have hpp := (hp.lt qp rfl).2
  have hbw := below2O w (.cells oE.toArray 30) (.cells #[.int .i64 2, .int .i64 5, .string ⟨#[]⟩, .slice none 0 0, .slice none 0 0, .slice none 0 0] 28)
  have ho := (Row.new w oE 30).alloc (.cells #[.int .i64 2, .int .i64 5, .string ⟨#[]⟩, .slice none 0 0, .slice none 0 0, .slice none 0 0] 28)
  have hpt := row_new1O w (.cells oE.toArray 30) [.int .i64 2, .int .i64 5, .string ⟨#[]⟩, .slice none 0 0, .slice none 0 0, .slice none 0 0] 28
  have hr := h.belowAll hbw
  have hi := own_below hi hbw
  have hp := own_below hp hbw
  have hsz : ((w.alloc (.cells oE.toArray 30)).alloc (.cells #[.int .i64 2, .int .i64 5, .string ⟨#[]⟩, .slice none 0 0, .slice none 0 0, .slice none 0 0] 28)).heap.size = w.heap.size + 1 + 1 := by simp
  have c3 := ho.cell (k := 3) rfl
  have HKI := Lib.hid hki
  have HKP := Lib.hid hkp
  clear h hki hkp
  go_enter Tryz.func76, Tryz.ntmps76
  go_wp2_with fail
  generalize hW0 : ((w.alloc (.cells oE.toArray 30)).alloc (.cells #[.int .i64 2, .int .i64 5, .string ⟨#[]⟩, .slice none 0 0, .slice none 0 0, .slice none 0 0] 28)) = W0 at *
  clear hW0 c3
  have HR0 := Lib.hid (fun (w' : World) (h : Below W0.heap.size W0 w') => hr.belowAll h)
  have HO0 := Lib.hid (fun (w' : World) (h : Below W0.heap.size W0 w') => ho.belowAll h)
  have HT0 := Lib.hid (fun (w' : World) (h : Below W0.heap.size W0 w') => hpt.belowAll h)
  have HI0 := Lib.hid (fun (w' : World) (h : Below W0.heap.size W0 w') => own_below hi h)
  have HP0 := Lib.hid (fun (w' : World) (h : Below W0.heap.size W0 w') => own_below hp h)
  have HBW := Lib.hid hbw
  clear hr ho hpt hi hp hbw
  have hbd : Below W0.heap.size W0 W0.drew := (Below.refl _ _).drew
  refine wp_region_held (S := fun w' : World => Below W0.heap.size W0 w') (by kernel_rfl) ?_
  change wpAnyH _ _ _ _ _ _ _ _ (World.drew _)
  have hS : (fun w' : World => Below W0.heap.size W0 w') (World.drew _) := hbd
  refine wpAnyH_take (i := 0) (v := ?_) rfl (by kernel_rfl) (by kernel_rfl) (by kernel_rfl) (fun _ _ _ h => h) (Or.inl ⟨by rfl, ?_⟩) hS ?_
  rotate_left
  · (intro w' hSw; go_simp; try (with_reducible rfl))
  change wpAnyH _ _ _ _ _ _ _ (Act.put _ (some 10) _) _
  try simp only [Act.put, List.setIfInBounds_toArray, List.set_cons_zero, List.set_cons_succ]
  refine wpAnyH_take (i := 1) (v := ?_) rfl (by kernel_rfl) (by kernel_rfl) (by kernel_rfl) (fun _ _ _ h => h) (Or.inl ⟨by rfl, ?_⟩) hS ?_
  rotate_left
  · (intro w' hSw; go_simp; try (with_reducible rfl))
  change wpAnyH _ _ _ _ _ _ _ (Act.put _ (some 11) _) _
  try simp only [Act.put, List.setIfInBounds_toArray, List.set_cons_zero, List.set_cons_succ]
  refine wpAnyH_take (i := 2) (v := .agg #[.int .i64 6, .int .i64 0, .string ⟨#[]⟩, .slice none 0 0, .slice (some ⟨qi, 0, none⟩) 1 ki, .slice (some ⟨qp, 0, none⟩) 1 kp]) rfl (by kernel_rfl) (by kernel_rfl) (by kernel_rfl) (fun _ _ _ h => h) (Or.inl ⟨by rfl, fun w' hSw => ex_ldO 28 (.tmp 11) rfl _ _ rfl (ld_val [.int .i64 6, .int .i64 0, .string ⟨#[]⟩, .slice none 0 0, .slice (some ⟨qi, 0, none⟩) 1 ki, .slice (some ⟨qp, 0, none⟩) 1 kp] rfl ((HR0.out w' hSw).cells))⟩) hS ?_
  change wpAnyH _ _ _ _ _ _ _ (Act.put _ (some 12) _) _
  try simp only [Act.put, List.setIfInBounds_toArray, List.set_cons_zero, List.set_cons_succ]
  refine wpAnyH_take (i := 3) (v := ?_) rfl (by kernel_rfl) (by kernel_rfl) (by kernel_rfl) (fun _ _ _ h => h) (Or.inl ⟨by rfl, ?_⟩) hS ?_
  rotate_left
  · (intro w' hSw; go_simp; try (with_reducible rfl))
  change wpAnyH _ _ _ _ _ _ _ (Act.put _ (some 13) _) _
  try simp only [Act.put, List.setIfInBounds_toArray, List.set_cons_zero, List.set_cons_succ]
  refine wpAnyH_take (i := 4) (v := .int .u64 2) rfl (by kernel_rfl) (by kernel_rfl) (by kernel_rfl) (fun _ _ _ h => h) (Or.inl ⟨by rfl, fun w' hSw => ex_ldO 23 (.tmp 13) rfl _ _ rfl (ld_u64 ((HO0.out w' hSw).cell (k := 3) rfl))⟩) hS ?_
  change wpAnyH _ _ _ _ _ _ _ (Act.put _ (some 14) _) _
  try simp only [Act.put, List.setIfInBounds_toArray, List.set_cons_zero, List.set_cons_succ]
  refine wpAnyH_ready (rs := [5]) (by kernel_rfl) (by simp) ?_
  refine AllReadyH.cons rfl (fun K hK => ?_) AllReadyH.nil
  rw [if_pos (by kernel_rfl)]
  go_simp
  refine (behind_ex qi ki _ _ _ _ _ (fun j v hj => own_cellJ (HI0.out _ hS) hj)).mono ?_
  rintro e w1 ⟨rfl, hb1⟩
  refine hK.out _ _ (hS.trans (hb1.mono hS.size)) (fun hS1 => ?_)
  clear hK K hS
  have hS := hS1
  clear hS1
  try simp only [Act.put, List.setIfInBounds_toArray, List.set_cons_zero, List.set_cons_succ]
  refine wpAnyH_take (i := 6) (v := ?_) rfl (by kernel_rfl) (by kernel_rfl) (by kernel_rfl) (fun _ _ _ h => h) (Or.inl ⟨by rfl, ?_⟩) hS ?_
  rotate_left
  · (intro w' hSw; go_simp; try (with_reducible rfl))
  change wpAnyH _ _ _ _ _ _ _ (Act.put _ (some 6) _) _
  try simp only [Act.put, List.setIfInBounds_toArray, List.set_cons_zero, List.set_cons_succ]
  refine wpAnyH_done (by kernel_rfl) ?_ _
  have hsz1 := hS.size
  have hr := HR0.out _ hS
  have ho := HO0.out _ hS
  have hpt := HT0.out _ hS
  have hi := HI0.out _ hS
  have hp := HP0.out _ hS
  have HBS := Lib.hid (HBW.out.trans (hS.mono HBW.out.size))
  clear hS HR0 HO0 HT0 HI0 HP0 HBW
  go_wp2_with fail
  generalize w1 = W at *
  have HRW := Lib.hid (fun (w' : World) (h : Only (fun j => j = qi ∨ j = qp) W w') => hr.only h (show ¬ (g = qi ∨ g = qp) by omega))
  have HOW := Lib.hid (fun (w' : World) (h : Only (fun j => j = qi ∨ j = qp) W w') => ho.only h (show ¬ (w.heap.size = qi ∨ w.heap.size = qp) by omega))
  have HTW := Lib.hid (fun (w' : World) (h : Only (fun j => j = qi ∨ j = qp) W w') => hpt.only h (show ¬ (w.heap.size + 1 = qi ∨ w.heap.size + 1 = qp) by omega))
  have hS0 : (fun w' : World => Only (fun j => j = qi ∨ j = qp) W w') W.drew := (Only.refl _ W).drew
  have hqi : qi < W.heap.size := by omega
  have hi := hi.drew
  have hp := hp.drew
  clear hr ho hpt hbd
  refine wp_region_till 21 (fun w' : World => Only (fun j => j = qi ∨ j = qp) W w') (by kernel_rfl) ?_
  change wpTill _ _ _ _ _ _ _ _ _ (World.drew _)
  have hS := hS0
  clear hS0
  refine wpTill_take (i := 0) (v := ?_) rfl (by decide) (by kernel_rfl) (by kernel_rfl) (by kernel_rfl) (fun _ _ _ h => h) (by rfl) ?_ hS ?_
  rotate_left
  · (intro w'; go_simp; try (with_reducible rfl))
  change wpTill _ _ _ _ _ _ _ _ (Act.put _ (some 16) _) _
  try simp only [Act.put, List.setIfInBounds_toArray, List.set_cons_zero, List.set_cons_succ]
  refine wpTill_take (i := 1) (v := ?_) rfl (by decide) (by kernel_rfl) (by kernel_rfl) (by kernel_rfl) (fun _ _ _ h => h) (by rfl) ?_ hS ?_
  rotate_left
  · (intro w'; go_simp; try (with_reducible rfl))
  change wpTill _ _ _ _ _ _ _ _ (Act.put _ (some 17) _) _
  try simp only [Act.put, List.setIfInBounds_toArray, List.set_cons_zero, List.set_cons_succ]
  refine wpTill_take (i := 2) (v := ?_) rfl (by decide) (by kernel_rfl) (by kernel_rfl) (by kernel_rfl) (fun _ _ _ h => h) (by rfl) ?_ hS ?_
  rotate_left
  · (intro w'; go_simp; try (with_reducible rfl))
  change wpTill _ _ _ _ _ _ _ _ (Act.put _ (some 18) _) _
  try simp only [Act.put, List.setIfInBounds_toArray, List.set_cons_zero, List.set_cons_succ]
  refine wpTill_take (i := 3) (v := ?_) rfl (by decide) (by kernel_rfl) (by kernel_rfl) (by kernel_rfl) (fun _ _ _ h => h) (by rfl) ?_ hS ?_
  rotate_left
  · (intro w'; go_simp; try (with_reducible rfl))
  change wpTill _ _ _ _ _ _ _ _ (Act.put _ (some 19) _) _
  try simp only [Act.put, List.setIfInBounds_toArray, List.set_cons_zero, List.set_cons_succ]
  refine wpTill_take (i := 4) (v := ?_) rfl (by decide) (by kernel_rfl) (by kernel_rfl) (by kernel_rfl) (fun _ _ _ h => h) (by rfl) ?_ hS ?_
  rotate_left
  · (intro w'; go_simp; try (with_reducible rfl))
  change wpTill _ _ _ _ _ _ _ _ (Act.put _ (some 20) _) _
  try simp only [Act.put, List.setIfInBounds_toArray, List.set_cons_zero, List.set_cons_succ]
  refine wpTill_load (i := 5) (v := .slice (some ⟨qi, 0, none⟩) 1 ki) rfl (by decide) (by kernel_rfl) (by kernel_rfl) (by kernel_rfl) (fun _ _ _ h => h) (by kernel_rfl) (by rfl) (fun w' hSw => ex_ldO 25 (.tmp 20) rfl _ _ rfl (ld_u64s ((HRW.out w' hSw).cell (k := 4) rfl))) hS ?_
  change wpTill _ _ _ _ _ _ _ _ (Act.put _ (some 21) _) _
  try simp only [Act.put, List.setIfInBounds_toArray, List.set_cons_zero, List.set_cons_succ]
  refine wpTill_take (i := 6) (v := ?_) rfl (by decide) (by kernel_rfl) (by kernel_rfl) (by kernel_rfl) (fun _ _ _ h => h) (by rfl) ?_ hS ?_
  rotate_left
  · (intro w'; go_simp; try (with_reducible rfl))
  change wpTill _ _ _ _ _ _ _ _ (Act.put _ (some 22) _) _
  try simp only [Act.put, List.setIfInBounds_toArray, List.set_cons_zero, List.set_cons_succ]
  refine wpTill_take (i := 7) (v := ?_) rfl (by decide) (by kernel_rfl) (by kernel_rfl) (by kernel_rfl) (fun _ _ _ h => h) (by rfl) ?_ hS ?_
  rotate_left
  · (intro w'; go_simp; try (with_reducible rfl))
  change wpTill _ _ _ _ _ _ _ _ (Act.put _ (some 23) _) _
  try simp only [Act.put, List.setIfInBounds_toArray, List.set_cons_zero, List.set_cons_succ]
  refine wpTill_load (i := 8) (v := .int .u64 1) rfl (by decide) (by kernel_rfl) (by kernel_rfl) (by kernel_rfl) (fun _ _ _ h => h) (by kernel_rfl) (by rfl) (fun w' hSw => ex_ldO 23 (.tmp 23) rfl _ _ rfl (ld_u64 ((HOW.out w' hSw).cell (k := 2) rfl))) hS ?_
  change wpTill _ _ _ _ _ _ _ _ (Act.put _ (some 24) _) _
  try simp only [Act.put, List.setIfInBounds_toArray, List.set_cons_zero, List.set_cons_succ]
  refine wpTill_take (i := 11) (v := ?_) rfl (by decide) (by kernel_rfl) (by kernel_rfl) (by kernel_rfl) (fun _ _ _ h => h) (by rfl) ?_ hS ?_
  rotate_left
  · (intro w'; go_simp; try (with_reducible rfl))
  change wpTill _ _ _ _ _ _ _ _ (Act.put _ (some 27) _) _
  try simp only [Act.put, List.setIfInBounds_toArray, List.set_cons_zero, List.set_cons_succ]
  refine wpTill_take (i := 12) (v := ?_) rfl (by decide) (by kernel_rfl) (by kernel_rfl) (by kernel_rfl) (fun _ _ _ h => h) (by rfl) ?_ hS ?_
  rotate_left
  · (intro w'; go_simp; try (with_reducible rfl))
  change wpTill _ _ _ _ _ _ _ _ (Act.put _ (some 28) _) _
  try simp only [Act.put, List.setIfInBounds_toArray, List.set_cons_zero, List.set_cons_succ]
  refine wpTill_take (i := 13) (v := ?_) rfl (by decide) (by kernel_rfl) (by kernel_rfl) (by kernel_rfl) (fun _ _ _ h => h) (by rfl) ?_ hS ?_
  rotate_left
  · (intro w'; go_simp; try (with_reducible rfl))
  change wpTill _ _ _ _ _ _ _ _ (Act.put _ (some 29) _) _
  try simp only [Act.put, List.setIfInBounds_toArray, List.set_cons_zero, List.set_cons_succ]
  refine wpTill_load (i := 14) (v := .slice (some ⟨qp, 0, none⟩) 1 kp) rfl (by decide) (by kernel_rfl) (by kernel_rfl) (by kernel_rfl) (fun _ _ _ h => h) (by kernel_rfl) (by rfl) (fun w' hSw => ex_ldO 26 (.tmp 29) rfl _ _ rfl (ldp_vals ((HRW.out w' hSw).cell (k := 5) rfl))) hS ?_
  change wpTill _ _ _ _ _ _ _ _ (Act.put _ (some 30) _) _
  try simp only [Act.put, List.setIfInBounds_toArray, List.set_cons_zero, List.set_cons_succ]
  refine wpTill_take (i := 15) (v := ?_) rfl (by decide) (by kernel_rfl) (by kernel_rfl) (by kernel_rfl) (fun _ _ _ h => h) (by rfl) ?_ hS ?_
  rotate_left
  · (intro w'; go_simp; try (with_reducible rfl))
  change wpTill _ _ _ _ _ _ _ _ (Act.put _ (some 31) _) _
  try simp only [Act.put, List.setIfInBounds_toArray, List.set_cons_zero, List.set_cons_succ]
  refine wpTill_two (i := 9) (j := 16) (by decide) (by decide) (by kernel_rfl) ?_ ?_
  · refine wpOp_step rfl (fun K hK => ?_)
    rw [if_pos (by kernel_rfl)]
    refine wp_build1u (.tmp 24) rfl 1 rfl ?_
    have hS1 := hS.alloc (.cells #[.int .u64 1] 23)
    have hi1 := hi.alloc (.cells #[.int .u64 1] 23)
    have hp1 := hp.alloc (.cells #[.int .u64 1] 23)
    have r9 := row_atJ W.drew [.int .u64 1] 23 (W.heap.size) (by simp)
    refine hK _ _ ⟨hS1, ?_⟩
    clear hK K hS hi hp
    have hS := hS1
    have hi := hi1
    have hp := hp1
    clear hS1 hi1 hp1
    change wpTill _ _ _ _ _ _ _ _ (Act.put _ (some 25) _) _
    try simp only [Act.put, List.setIfInBounds_toArray, List.set_cons_zero, List.set_cons_succ]
    refine wpTill_two (i := 10) (j := 16) (by decide) (by decide) (by kernel_rfl) ?_ ?_
    · refine wpOp_step rfl (fun K hK => ?_)
      rw [if_pos (by kernel_rfl)]
      go_simp
      refine (insu_ex B qi ki _ 1 _ _ _ HKI.out.1 HKI.out.2 hi rfl r9.cells (by simp [Value.oneCell'])).mono ?_
      rintro e X4 ⟨rfl, hi1, ho1⟩
      have hS1 : Only (fun j => j = qi ∨ j = qp) W X4 := hS.trans ho1 fun _ _ e => .inl e
      have hp1 := own_only hp ho1 fun j hj e => by injection hj with hj; exact hne (by rw [← hj] at e; exact e.symm)
      refine hK _ _ ⟨hS1, ?_⟩
      clear hK K hS hi hp
      have hS := hS1
      have hi := hi1
      have hp := hp1
      clear hS1 hi1 hp1
      try simp only [Act.put, List.setIfInBounds_toArray, List.set_cons_zero, List.set_cons_succ]
      refine wpTill_one (i := 16) (by decide) (by kernel_rfl) ?_
      refine wpOp_step rfl (fun K hK => ?_)
      rw [if_pos (by kernel_rfl)]
      refine wp_loadO 28 (.tmp 5) rfl _ _ rfl (ld_val [.int .i64 2, .int .i64 5, .string ⟨#[]⟩, .slice none 0 0, .slice none 0 0, .slice none 0 0] rfl ((HTW.out _ hS).cells)) ?_
      refine hK _ _ ⟨hS, ?_⟩
      clear hK K
      change wpTill _ _ _ _ _ _ _ _ (Act.put _ (some 32) _) _
      try simp only [Act.put, List.setIfInBounds_toArray, List.set_cons_zero, List.set_cons_succ]
      refine wpTill_one (i := 17) (by decide) (by kernel_rfl) ?_
      refine wpOp_step rfl (fun K hK => ?_)
      rw [if_pos (by kernel_rfl)]
      refine wp_build1v (.tmp 32) rfl rfl ?_
      have hS1 := hS.alloc (.cells #[.int .i64 2, .int .i64 5, .string ⟨#[]⟩, .slice none 0 0, .slice none 0 0, .slice none 0 0] 28)
      have hi1 := hi.alloc (.cells #[.int .i64 2, .int .i64 5, .string ⟨#[]⟩, .slice none 0 0, .slice none 0 0, .slice none 0 0] 28)
      have hp1 := hp.alloc (.cells #[.int .i64 2, .int .i64 5, .string ⟨#[]⟩, .slice none 0 0, .slice none 0 0, .slice none 0 0] 28)
      have r17 := row_atJ X4 [.int .i64 2, .int .i64 5, .string ⟨#[]⟩, .slice none 0 0, .slice none 0 0, .slice none 0 0] 28 (X4.heap.size) (by simp)
      refine hK _ _ ⟨hS1, ?_⟩
      clear hK K hS hi hp
      have hS := hS1
      have hi := hi1
      have hp := hp1
      clear hS1 hi1 hp1
      change wpTill _ _ _ _ _ _ _ _ (Act.put _ (some 33) _) _
      try simp only [Act.put, List.setIfInBounds_toArray, List.set_cons_zero, List.set_cons_succ]
      refine wpTill_one (i := 18) (by decide) (by kernel_rfl) ?_
      refine wpOp_step rfl (fun K hK => ?_)
      rw [if_pos (by kernel_rfl)]
      go_simp
      refine (insv_ex B qp kp _ 1 _ _ _ HKP.out.1 HKP.out.2 hp rfl r17.cells (by simp [Value.oneCell'])).mono ?_
      rintro e X5 ⟨rfl, hp1, ho2⟩
      have hS1 : Only (fun j => j = qi ∨ j = qp) W X5 := hS.trans ho2 fun _ _ e => .inr e
      have hi1 := own_only hi ho2 fun j hj e => by injection hj with hj; exact hne (by rw [← hj] at e; exact e)
      refine hK _ _ ⟨hS1, ?_⟩
      clear hK K hS hi hp
      have hS := hS1
      have hi2 := hi1
      have hp2 := hp1
      clear hS1 hi1 hp1
      have HS := Lib.hid hS
      have hrw := HRW.out _ hS
      try simp only [Act.put, List.setIfInBounds_toArray, List.set_cons_zero, List.set_cons_succ]
      refine wpTill_take (i := 19) (v := ?_) rfl (by decide) (by kernel_rfl) (by kernel_rfl) (by kernel_rfl) (fun _ _ _ h => h) (by rfl) ?_ hS ?_
      rotate_left
      · (intro w'; go_simp; try (with_reducible rfl))
      change wpTill _ _ _ _ _ _ _ _ (Act.put _ (some 35) _) _
      try simp only [Act.put, List.setIfInBounds_toArray, List.set_cons_zero, List.set_cons_succ]
      refine wpTill_take (i := 20) (v := ?_) rfl (by decide) (by kernel_rfl) (by kernel_rfl) (by kernel_rfl) (fun _ _ _ h => h) (by rfl) ?_ hS ?_
      rotate_left
      · (intro w'; go_simp; try (with_reducible rfl))
      change wpTill _ _ _ _ _ _ _ _ (Act.put _ (some 36) _) _
      try simp only [Act.put, List.setIfInBounds_toArray, List.set_cons_zero, List.set_cons_succ]
      have ck := hrw.cell (k := 4) rfl
      have cf := hrw.free 4
      refine wpTill_part (by kernel_rfl) ?_
      refine wpOp_step rfl (fun K hK => ?_)
      rw [if_pos (by kernel_rfl)]
      go_simp
      refine hK _ _ ?_
      clear hK K ck cf
      have hrw := hrw.set 4 (.slice (some ⟨qi, 0, none⟩) 2 ki)
      try simp only [Act.put, List.setIfInBounds_toArray, List.set_cons_zero, List.set_cons_succ]
      refine wpAny_take (i := 22) (v := ?_) rfl (by kernel_rfl) (by kernel_rfl) (by kernel_rfl) (fun _ _ _ h => h) (Or.inl ⟨by rfl, ?_⟩) ?_
      rotate_left
      · (intro w'; go_simp; try (with_reducible rfl))
      change wpAny _ _ _ _ _ _ (Act.put _ (some 37) _) _
      try simp only [Act.put, List.setIfInBounds_toArray, List.set_cons_zero, List.set_cons_succ]
      refine wpAny_take (i := 23) (v := ?_) rfl (by kernel_rfl) (by kernel_rfl) (by kernel_rfl) (fun _ _ _ h => h) (Or.inl ⟨by rfl, ?_⟩) ?_
      rotate_left
      · (intro w'; go_simp; try (with_reducible rfl))
      change wpAny _ _ _ _ _ _ (Act.put _ (some 38) _) _
      try simp only [Act.put, List.setIfInBounds_toArray, List.set_cons_zero, List.set_cons_succ]
      have ck := hrw.cell (k := 5) rfl
      have cf := hrw.free 5
      refine wpAny_ready (rs := [24]) (by kernel_rfl) (by simp) ?_
      refine AllReady.cons rfl (fun K hK => ?_) AllReady.nil
      rw [if_pos (by kernel_rfl)]
      go_simp
      refine hK _ _ ?_
      clear hK K ck cf
      have hrw := hrw.set 5 (.slice (some ⟨qp, 0, none⟩) 2 kp)
      try simp only [Act.put, List.setIfInBounds_toArray, List.set_cons_zero, List.set_cons_succ]
      refine wpAny_done (by kernel_rfl) ?_ _
      clear hS
      have hO : Only (fun j => j = g ∨ j = qi ∨ j = qp) W ((X5.setCell ⟨g, 4, none⟩ (.slice (some ⟨qi, 0, none⟩) 2 ki)).setCell ⟨g, 5, none⟩ (.slice (some ⟨qp, 0, none⟩) 2 kp)) := ((HS.out.mono fun _ _ e => .inr e).setCell (.inl (.inl rfl)) _).setCell (.inl (.inl rfl)) _
      have hO5 : Only (fun j => j = g) X5 ((X5.setCell ⟨g, 4, none⟩ (.slice (some ⟨qi, 0, none⟩) 2 ki)).setCell ⟨g, 5, none⟩ (.slice (some ⟨qp, 0, none⟩) 2 kp)) := ((Only.refl (fun j => j = g) X5).setCell (.inl rfl) _).setCell (.inl rfl) _
      have HI3 := Lib.hid (own_only hi2 hO5 fun j hj e => by injection hj with hj; exact hgi (by rw [← hj] at e; exact e.symm))
      have HP3 := Lib.hid (own_only hp2 hO5 fun j hj e => by injection hj with hj; exact hgp (by rw [← hj] at e; exact e.symm))
      have HRY := Lib.hid (show Row ((X5.setCell ⟨g, 4, none⟩ (.slice (some ⟨qi, 0, none⟩) 2 ki)).setCell ⟨g, 5, none⟩ (.slice (some ⟨qp, 0, none⟩) 2 kp)) g 28 [.int .i64 6, .int .i64 0, .string ⟨#[]⟩, .slice none 0 0, .slice (some ⟨qi, 0, none⟩) 2 ki, .slice (some ⟨qp, 0, none⟩) 2 kp] from hrw)
      have HOY := Lib.hid hO
      clear hi2 hp2 hrw hO hO5 HS
      go_wp2_with fail
      go_end0
      exact ⟨rfl, HRY.out, HI3.out, HP3.out, (Only.of_below HBS.out _).trans HOY.out fun _ _ e => e⟩
    · refine wpOp_step rfl (fun K hK => ?_)
      rw [if_pos (by kernel_rfl)]
      refine wp_loadO 28 (.tmp 5) rfl _ _ rfl (ld_val [.int .i64 2, .int .i64 5, .string ⟨#[]⟩, .slice none 0 0, .slice none 0 0, .slice none 0 0] rfl ((HTW.out _ hS).cells)) ?_
      refine hK _ _ ⟨hS, ?_⟩
      clear hK K
      change wpTill _ _ _ _ _ _ _ _ (Act.put _ (some 32) _) _
      try simp only [Act.put, List.setIfInBounds_toArray, List.set_cons_zero, List.set_cons_succ]
      refine wpTill_two (i := 10) (j := 17) (by decide) (by decide) (by kernel_rfl) ?_ ?_
      · refine wpOp_step rfl (fun K hK => ?_)
        rw [if_pos (by kernel_rfl)]
        go_simp
        refine (insu_ex B qi ki _ 1 _ _ _ HKI.out.1 HKI.out.2 hi rfl r9.cells (by simp [Value.oneCell'])).mono ?_
        rintro e X4 ⟨rfl, hi1, ho1⟩
        have hS1 : Only (fun j => j = qi ∨ j = qp) W X4 := hS.trans ho1 fun _ _ e => .inl e
        have hp1 := own_only hp ho1 fun j hj e => by injection hj with hj; exact hne (by rw [← hj] at e; exact e.symm)
        refine hK _ _ ⟨hS1, ?_⟩
        clear hK K hS hi hp
        have hS := hS1
        have hi := hi1
        have hp := hp1
        clear hS1 hi1 hp1
        try simp only [Act.put, List.setIfInBounds_toArray, List.set_cons_zero, List.set_cons_succ]
        refine wpTill_one (i := 17) (by decide) (by kernel_rfl) ?_
        refine wpOp_step rfl (fun K hK => ?_)
        rw [if_pos (by kernel_rfl)]
        refine wp_build1v (.tmp 32) rfl rfl ?_
        have hS1 := hS.alloc (.cells #[.int .i64 2, .int .i64 5, .string ⟨#[]⟩, .slice none 0 0, .slice none 0 0, .slice none 0 0] 28)
        have hi1 := hi.alloc (.cells #[.int .i64 2, .int .i64 5, .string ⟨#[]⟩, .slice none 0 0, .slice none 0 0, .slice none 0 0] 28)
        have hp1 := hp.alloc (.cells #[.int .i64 2, .int .i64 5, .string ⟨#[]⟩, .slice none 0 0, .slice none 0 0, .slice none 0 0] 28)
        have r17 := row_atJ X4 [.int .i64 2, .int .i64 5, .string ⟨#[]⟩, .slice none 0 0, .slice none 0 0, .slice none 0 0] 28 (X4.heap.size) (by simp)
        refine hK _ _ ⟨hS1, ?_⟩
        clear hK K hS hi hp
        have hS := hS1
        have hi := hi1
        have hp := hp1
        clear hS1 hi1 hp1
        change wpTill _ _ _ _ _ _ _ _ (Act.put _ (some 33) _) _
        try simp only [Act.put, List.setIfInBounds_toArray, List.set_cons_zero, List.set_cons_succ]
        refine wpTill_one (i := 18) (by decide) (by kernel_rfl) ?_
        refine wpOp_step rfl (fun K hK => ?_)
        rw [if_pos (by kernel_rfl)]
        go_simp
        refine (insv_ex B qp kp _ 1 _ _ _ HKP.out.1 HKP.out.2 hp rfl r17.cells (by simp [Value.oneCell'])).mono ?_
        rintro e X5 ⟨rfl, hp1, ho2⟩
        have hS1 : Only (fun j => j = qi ∨ j = qp) W X5 := hS.trans ho2 fun _ _ e => .inr e
        have hi1 := own_only hi ho2 fun j hj e => by injection hj with hj; exact hne (by rw [← hj] at e; exact e)
        refine hK _ _ ⟨hS1, ?_⟩
        clear hK K hS hi hp
        have hS := hS1
        have hi2 := hi1
        have hp2 := hp1
        clear hS1 hi1 hp1
        have HS := Lib.hid hS
        have hrw := HRW.out _ hS
        try simp only [Act.put, List.setIfInBounds_toArray, List.set_cons_zero, List.set_cons_succ]
        refine wpTill_take (i := 19) (v := ?_) rfl (by decide) (by kernel_rfl) (by kernel_rfl) (by kernel_rfl) (fun _ _ _ h => h) (by rfl) ?_ hS ?_
        rotate_left
        · (intro w'; go_simp; try (with_reducible rfl))
        change wpTill _ _ _ _ _ _ _ _ (Act.put _ (some 35) _) _
        try simp only [Act.put, List.setIfInBounds_toArray, List.set_cons_zero, List.set_cons_succ]
        refine wpTill_take (i := 20) (v := ?_) rfl (by decide) (by kernel_rfl) (by kernel_rfl) (by kernel_rfl) (fun _ _ _ h => h) (by rfl) ?_ hS ?_
        rotate_left
        · (intro w'; go_simp; try (with_reducible rfl))
        change wpTill _ _ _ _ _ _ _ _ (Act.put _ (some 36) _) _
        try simp only [Act.put, List.setIfInBounds_toArray, List.set_cons_zero, List.set_cons_succ]
        have ck := hrw.cell (k := 4) rfl
        have cf := hrw.free 4
        refine wpTill_part (by kernel_rfl) ?_
        refine wpOp_step rfl (fun K hK => ?_)
        rw [if_pos (by kernel_rfl)]
        go_simp
        refine hK _ _ ?_
        clear hK K ck cf
        have hrw := hrw.set 4 (.slice (some ⟨qi, 0, none⟩) 2 ki)
        try simp only [Act.put, List.setIfInBounds_toArray, List.set_cons_zero, List.set_cons_succ]
        refine wpAny_take (i := 22) (v := ?_) rfl (by kernel_rfl) (by kernel_rfl) (by kernel_rfl) (fun _ _ _ h => h) (Or.inl ⟨by rfl, ?_⟩) ?_
        rotate_left
        · (intro w'; go_simp; try (with_reducible rfl))
        change wpAny _ _ _ _ _ _ (Act.put _ (some 37) _) _
        try simp only [Act.put, List.setIfInBounds_toArray, List.set_cons_zero, List.set_cons_succ]
        refine wpAny_take (i := 23) (v := ?_) rfl (by kernel_rfl) (by kernel_rfl) (by kernel_rfl) (fun _ _ _ h => h) (Or.inl ⟨by rfl, ?_⟩) ?_
        rotate_left
        · (intro w'; go_simp; try (with_reducible rfl))
        change wpAny _ _ _ _ _ _ (Act.put _ (some 38) _) _
        try simp only [Act.put, List.setIfInBounds_toArray, List.set_cons_zero, List.set_cons_succ]
        have ck := hrw.cell (k := 5) rfl
        have cf := hrw.free 5
        refine wpAny_ready (rs := [24]) (by kernel_rfl) (by simp) ?_
        refine AllReady.cons rfl (fun K hK => ?_) AllReady.nil
        rw [if_pos (by kernel_rfl)]
        go_simp
        refine hK _ _ ?_
        clear hK K ck cf
        have hrw := hrw.set 5 (.slice (some ⟨qp, 0, none⟩) 2 kp)
        try simp only [Act.put, List.setIfInBounds_toArray, List.set_cons_zero, List.set_cons_succ]
        refine wpAny_done (by kernel_rfl) ?_ _
        clear hS
        have hO : Only (fun j => j = g ∨ j = qi ∨ j = qp) W ((X5.setCell ⟨g, 4, none⟩ (.slice (some ⟨qi, 0, none⟩) 2 ki)).setCell ⟨g, 5, none⟩ (.slice (some ⟨qp, 0, none⟩) 2 kp)) := ((HS.out.mono fun _ _ e => .inr e).setCell (.inl (.inl rfl)) _).setCell (.inl (.inl rfl)) _
        have hO5 : Only (fun j => j = g) X5 ((X5.setCell ⟨g, 4, none⟩ (.slice (some ⟨qi, 0, none⟩) 2 ki)).setCell ⟨g, 5, none⟩ (.slice (some ⟨qp, 0, none⟩) 2 kp)) := ((Only.refl (fun j => j = g) X5).setCell (.inl rfl) _).setCell (.inl rfl) _
        have HI3 := Lib.hid (own_only hi2 hO5 fun j hj e => by injection hj with hj; exact hgi (by rw [← hj] at e; exact e.symm))
        have HP3 := Lib.hid (own_only hp2 hO5 fun j hj e => by injection hj with hj; exact hgp (by rw [← hj] at e; exact e.symm))
        have HRY := Lib.hid (show Row ((X5.setCell ⟨g, 4, none⟩ (.slice (some ⟨qi, 0, none⟩) 2 ki)).setCell ⟨g, 5, none⟩ (.slice (some ⟨qp, 0, none⟩) 2 kp)) g 28 [.int .i64 6, .int .i64 0, .string ⟨#[]⟩, .slice none 0 0, .slice (some ⟨qi, 0, none⟩) 2 ki, .slice (some ⟨qp, 0, none⟩) 2 kp] from hrw)
        have HOY := Lib.hid hO
        clear hi2 hp2 hrw hO hO5 HS
        go_wp2_with fail
        go_end0
        exact ⟨rfl, HRY.out, HI3.out, HP3.out, (Only.of_below HBS.out _).trans HOY.out fun _ _ e => e⟩
      · refine wpOp_step rfl (fun K hK => ?_)
        rw [if_pos (by kernel_rfl)]
        refine wp_build1v (.tmp 32) rfl rfl ?_
        have hS1 := hS.alloc (.cells #[.int .i64 2, .int .i64 5, .string ⟨#[]⟩, .slice none 0 0, .slice none 0 0, .slice none 0 0] 28)
        have hi1 := hi.alloc (.cells #[.int .i64 2, .int .i64 5, .string ⟨#[]⟩, .slice none 0 0, .slice none 0 0, .slice none 0 0] 28)
        have hp1 := hp.alloc (.cells #[.int .i64 2, .int .i64 5, .string ⟨#[]⟩, .slice none 0 0, .slice none 0 0, .slice none 0 0] 28)
        have hn17 : qi < W.heap.size + 1 := by omega
        have r17 := row_atJ (W.drew.alloc (.cells #[.int .u64 1] 23)) [.int .i64 2, .int .i64 5, .string ⟨#[]⟩, .slice none 0 0, .slice none 0 0, .slice none 0 0] 28 (W.heap.size + 1) (by simp)
        have r9 := r9.alloc (.cells #[.int .i64 2, .int .i64 5, .string ⟨#[]⟩, .slice none 0 0, .slice none 0 0, .slice none 0 0] 28)
        refine hK _ _ ⟨hS1, ?_⟩
        clear hK K hS hi hp
        have hS := hS1
        have hi := hi1
        have hp := hp1
        clear hS1 hi1 hp1
        change wpTill _ _ _ _ _ _ _ _ (Act.put _ (some 33) _) _
        try simp only [Act.put, List.setIfInBounds_toArray, List.set_cons_zero, List.set_cons_succ]
        refine wpTill_one (i := 10) (by decide) (by kernel_rfl) ?_
        refine wpOp_step rfl (fun K hK => ?_)
        rw [if_pos (by kernel_rfl)]
        go_simp
        refine (insu_ex B qi ki _ 1 _ _ _ HKI.out.1 HKI.out.2 hi rfl r9.cells (by simp [Value.oneCell'])).mono ?_
        rintro e X4 ⟨rfl, hi1, ho1⟩
        have hS1 : Only (fun j => j = qi ∨ j = qp) W X4 := hS.trans ho1 fun _ _ e => .inl e
        have hp1 := own_only hp ho1 fun j hj e => by injection hj with hj; exact hne (by rw [← hj] at e; exact e.symm)
        have r17 := r17.only ho1 (Nat.ne_of_gt hn17)
        refine hK _ _ ⟨hS1, ?_⟩
        clear hK K hS hi hp
        have hS := hS1
        have hi := hi1
        have hp := hp1
        clear hS1 hi1 hp1
        try simp only [Act.put, List.setIfInBounds_toArray, List.set_cons_zero, List.set_cons_succ]
        refine wpTill_one (i := 18) (by decide) (by kernel_rfl) ?_
        refine wpOp_step rfl (fun K hK => ?_)
        rw [if_pos (by kernel_rfl)]
        go_simp
        refine (insv_ex B qp kp _ 1 _ _ _ HKP.out.1 HKP.out.2 hp rfl r17.cells (by simp [Value.oneCell'])).mono ?_
        rintro e X5 ⟨rfl, hp1, ho2⟩
        have hS1 : Only (fun j => j = qi ∨ j = qp) W X5 := hS.trans ho2 fun _ _ e => .inr e
        have hi1 := own_only hi ho2 fun j hj e => by injection hj with hj; exact hne (by rw [← hj] at e; exact e)
        refine hK _ _ ⟨hS1, ?_⟩
        clear hK K hS hi hp
        have hS := hS1
        have hi2 := hi1
        have hp2 := hp1
        clear hS1 hi1 hp1
        have HS := Lib.hid hS
        have hrw := HRW.out _ hS
        try simp only [Act.put, List.setIfInBounds_toArray, List.set_cons_zero, List.set_cons_succ]
        refine wpTill_take (i := 19) (v := ?_) rfl (by decide) (by kernel_rfl) (by kernel_rfl) (by kernel_rfl) (fun _ _ _ h => h) (by rfl) ?_ hS ?_
        rotate_left
        · (intro w'; go_simp; try (with_reducible rfl))
        change wpTill _ _ _ _ _ _ _ _ (Act.put _ (some 35) _) _
        try simp only [Act.put, List.setIfInBounds_toArray, List.set_cons_zero, List.set_cons_succ]
        refine wpTill_take (i := 20) (v := ?_) rfl (by decide) (by kernel_rfl) (by kernel_rfl) (by kernel_rfl) (fun _ _ _ h => h) (by rfl) ?_ hS ?_
        rotate_left
        · (intro w'; go_simp; try (with_reducible rfl))
        change wpTill _ _ _ _ _ _ _ _ (Act.put _ (some 36) _) _
        try simp only [Act.put, List.setIfInBounds_toArray, List.set_cons_zero, List.set_cons_succ]
        have ck := hrw.cell (k := 4) rfl
        have cf := hrw.free 4
        refine wpTill_part (by kernel_rfl) ?_
        refine wpOp_step rfl (fun K hK => ?_)
        rw [if_pos (by kernel_rfl)]
        go_simp
        refine hK _ _ ?_
        clear hK K ck cf
        have hrw := hrw.set 4 (.slice (some ⟨qi, 0, none⟩) 2 ki)
        try simp only [Act.put, List.setIfInBounds_toArray, List.set_cons_zero, List.set_cons_succ]
        refine wpAny_take (i := 22) (v := ?_) rfl (by kernel_rfl) (by kernel_rfl) (by kernel_rfl) (fun _ _ _ h => h) (Or.inl ⟨by rfl, ?_⟩) ?_
        rotate_left
        · (intro w'; go_simp; try (with_reducible rfl))
        change wpAny _ _ _ _ _ _ (Act.put _ (some 37) _) _
        try simp only [Act.put, List.setIfInBounds_toArray, List.set_cons_zero, List.set_cons_succ]
        refine wpAny_take (i := 23) (v := ?_) rfl (by kernel_rfl) (by kernel_rfl) (by kernel_rfl) (fun _ _ _ h => h) (Or.inl ⟨by rfl, ?_⟩) ?_
        rotate_left
        · (intro w'; go_simp; try (with_reducible rfl))
        change wpAny _ _ _ _ _ _ (Act.put _ (some 38) _) _
        try simp only [Act.put, List.setIfInBounds_toArray, List.set_cons_zero, List.set_cons_succ]
        have ck := hrw.cell (k := 5) rfl
        have cf := hrw.free 5
        refine wpAny_ready (rs := [24]) (by kernel_rfl) (by simp) ?_
        refine AllReady.cons rfl (fun K hK => ?_) AllReady.nil
        rw [if_pos (by kernel_rfl)]
        go_simp
        refine hK _ _ ?_
        clear hK K ck cf
        have hrw := hrw.set 5 (.slice (some ⟨qp, 0, none⟩) 2 kp)
        try simp only [Act.put, List.setIfInBounds_toArray, List.set_cons_zero, List.set_cons_succ]
        refine wpAny_done (by kernel_rfl) ?_ _
        clear hS
        have hO : Only (fun j => j = g ∨ j = qi ∨ j = qp) W ((X5.setCell ⟨g, 4, none⟩ (.slice (some ⟨qi, 0, none⟩) 2 ki)).setCell ⟨g, 5, none⟩ (.slice (some ⟨qp, 0, none⟩) 2 kp)) := ((HS.out.mono fun _ _ e => .inr e).setCell (.inl (.inl rfl)) _).setCell (.inl (.inl rfl)) _
        have hO5 : Only (fun j => j = g) X5 ((X5.setCell ⟨g, 4, none⟩ (.slice (some ⟨qi, 0, none⟩) 2 ki)).setCell ⟨g, 5, none⟩ (.slice (some ⟨qp, 0, none⟩) 2 kp)) := ((Only.refl (fun j => j = g) X5).setCell (.inl rfl) _).setCell (.inl rfl) _
        have HI3 := Lib.hid (own_only hi2 hO5 fun j hj e => by injection hj with hj; exact hgi (by rw [← hj] at e; exact e.symm))
        have HP3 := Lib.hid (own_only hp2 hO5 fun j hj e => by injection hj with hj; exact hgp (by rw [← hj] at e; exact e.symm))
        have HRY := Lib.hid (show Row ((X5.setCell ⟨g, 4, none⟩ (.slice (some ⟨qi, 0, none⟩) 2 ki)).setCell ⟨g, 5, none⟩ (.slice (some ⟨qp, 0, none⟩) 2 kp)) g 28 [.int .i64 6, .int .i64 0, .string ⟨#[]⟩, .slice none 0 0, .slice (some ⟨qi, 0, none⟩) 2 ki, .slice (some ⟨qp, 0, none⟩) 2 kp] from hrw)
        have HOY := Lib.hid hO
        clear hi2 hp2 hrw hO hO5 HS
        go_wp2_with fail
        go_end0
        exact ⟨rfl, HRY.out, HI3.out, HP3.out, (Only.of_below HBS.out _).trans HOY.out fun _ _ e => e⟩
  · refine wpOp_step rfl (fun K hK => ?_)
    rw [if_pos (by kernel_rfl)]
    refine wp_loadO 28 (.tmp 5) rfl _ _ rfl (ld_val [.int .i64 2, .int .i64 5, .string ⟨#[]⟩, .slice none 0 0, .slice none 0 0, .slice none 0 0] rfl ((HTW.out _ hS).cells)) ?_
    refine hK _ _ ⟨hS, ?_⟩
    clear hK K
    change wpTill _ _ _ _ _ _ _ _ (Act.put _ (some 32) _) _
    try simp only [Act.put, List.setIfInBounds_toArray, List.set_cons_zero, List.set_cons_succ]
    refine wpTill_two (i := 9) (j := 17) (by decide) (by decide) (by kernel_rfl) ?_ ?_
    · refine wpOp_step rfl (fun K hK => ?_)
      rw [if_pos (by kernel_rfl)]
      refine wp_build1u (.tmp 24) rfl 1 rfl ?_
      have hS1 := hS.alloc (.cells #[.int .u64 1] 23)
      have hi1 := hi.alloc (.cells #[.int .u64 1] 23)
      have hp1 := hp.alloc (.cells #[.int .u64 1] 23)
      have r9 := row_atJ W.drew [.int .u64 1] 23 (W.heap.size) (by simp)
      refine hK _ _ ⟨hS1, ?_⟩
      clear hK K hS hi hp
      have hS := hS1
      have hi := hi1
      have hp := hp1
      clear hS1 hi1 hp1
      change wpTill _ _ _ _ _ _ _ _ (Act.put _ (some 25) _) _
      try simp only [Act.put, List.setIfInBounds_toArray, List.set_cons_zero, List.set_cons_succ]
      refine wpTill_two (i := 10) (j := 17) (by decide) (by decide) (by kernel_rfl) ?_ ?_
      · refine wpOp_step rfl (fun K hK => ?_)
        rw [if_pos (by kernel_rfl)]
        go_simp
        refine (insu_ex B qi ki _ 1 _ _ _ HKI.out.1 HKI.out.2 hi rfl r9.cells (by simp [Value.oneCell'])).mono ?_
        rintro e X4 ⟨rfl, hi1, ho1⟩
        have hS1 : Only (fun j => j = qi ∨ j = qp) W X4 := hS.trans ho1 fun _ _ e => .inl e
        have hp1 := own_only hp ho1 fun j hj e => by injection hj with hj; exact hne (by rw [← hj] at e; exact e.symm)
        refine hK _ _ ⟨hS1, ?_⟩
        clear hK K hS hi hp
        have hS := hS1
        have hi := hi1
        have hp := hp1
        clear hS1 hi1 hp1
        try simp only [Act.put, List.setIfInBounds_toArray, List.set_cons_zero, List.set_cons_succ]
        refine wpTill_one (i := 17) (by decide) (by kernel_rfl) ?_
        refine wpOp_step rfl (fun K hK => ?_)
        rw [if_pos (by kernel_rfl)]
        refine wp_build1v (.tmp 32) rfl rfl ?_
        have hS1 := hS.alloc (.cells #[.int .i64 2, .int .i64 5, .string ⟨#[]⟩, .slice none 0 0, .slice none 0 0, .slice none 0 0] 28)
        have hi1 := hi.alloc (.cells #[.int .i64 2, .int .i64 5, .string ⟨#[]⟩, .slice none 0 0, .slice none 0 0, .slice none 0 0] 28)
        have hp1 := hp.alloc (.cells #[.int .i64 2, .int .i64 5, .string ⟨#[]⟩, .slice none 0 0, .slice none 0 0, .slice none 0 0] 28)
        have r17 := row_atJ X4 [.int .i64 2, .int .i64 5, .string ⟨#[]⟩, .slice none 0 0, .slice none 0 0, .slice none 0 0] 28 (X4.heap.size) (by simp)
        refine hK _ _ ⟨hS1, ?_⟩
        clear hK K hS hi hp
        have hS := hS1
        have hi := hi1
        have hp := hp1
        clear hS1 hi1 hp1
        change wpTill _ _ _ _ _ _ _ _ (Act.put _ (some 33) _) _
        try simp only [Act.put, List.setIfInBounds_toArray, List.set_cons_zero, List.set_cons_succ]
        refine wpTill_one (i := 18) (by decide) (by kernel_rfl) ?_
        refine wpOp_step rfl (fun K hK => ?_)
        rw [if_pos (by kernel_rfl)]
        go_simp
        refine (insv_ex B qp kp _ 1 _ _ _ HKP.out.1 HKP.out.2 hp rfl r17.cells (by simp [Value.oneCell'])).mono ?_
        rintro e X5 ⟨rfl, hp1, ho2⟩
        have hS1 : Only (fun j => j = qi ∨ j = qp) W X5 := hS.trans ho2 fun _ _ e => .inr e
        have hi1 := own_only hi ho2 fun j hj e => by injection hj with hj; exact hne (by rw [← hj] at e; exact e)
        refine hK _ _ ⟨hS1, ?_⟩
        clear hK K hS hi hp
        have hS := hS1
        have hi2 := hi1
        have hp2 := hp1
        clear hS1 hi1 hp1
        have HS := Lib.hid hS
        have hrw := HRW.out _ hS
        try simp only [Act.put, List.setIfInBounds_toArray, List.set_cons_zero, List.set_cons_succ]
        refine wpTill_take (i := 19) (v := ?_) rfl (by decide) (by kernel_rfl) (by kernel_rfl) (by kernel_rfl) (fun _ _ _ h => h) (by rfl) ?_ hS ?_
        rotate_left
        · (intro w'; go_simp; try (with_reducible rfl))
        change wpTill _ _ _ _ _ _ _ _ (Act.put _ (some 35) _) _
        try simp only [Act.put, List.setIfInBounds_toArray, List.set_cons_zero, List.set_cons_succ]
        refine wpTill_take (i := 20) (v := ?_) rfl (by decide) (by kernel_rfl) (by kernel_rfl) (by kernel_rfl) (fun _ _ _ h => h) (by rfl) ?_ hS ?_
        rotate_left
        · (intro w'; go_simp; try (with_reducible rfl))
        change wpTill _ _ _ _ _ _ _ _ (Act.put _ (some 36) _) _
        try simp only [Act.put, List.setIfInBounds_toArray, List.set_cons_zero, List.set_cons_succ]
        have ck := hrw.cell (k := 4) rfl
        have cf := hrw.free 4
        refine wpTill_part (by kernel_rfl) ?_
        refine wpOp_step rfl (fun K hK => ?_)
        rw [if_pos (by kernel_rfl)]
        go_simp
        refine hK _ _ ?_
        clear hK K ck cf
        have hrw := hrw.set 4 (.slice (some ⟨qi, 0, none⟩) 2 ki)
        try simp only [Act.put, List.setIfInBounds_toArray, List.set_cons_zero, List.set_cons_succ]
        refine wpAny_take (i := 22) (v := ?_) rfl (by kernel_rfl) (by kernel_rfl) (by kernel_rfl) (fun _ _ _ h => h) (Or.inl ⟨by rfl, ?_⟩) ?_
        rotate_left
        · (intro w'; go_simp; try (with_reducible rfl))
        change wpAny _ _ _ _ _ _ (Act.put _ (some 37) _) _
        try simp only [Act.put, List.setIfInBounds_toArray, List.set_cons_zero, List.set_cons_succ]
        refine wpAny_take (i := 23) (v := ?_) rfl (by kernel_rfl) (by kernel_rfl) (by kernel_rfl) (fun _ _ _ h => h) (Or.inl ⟨by rfl, ?_⟩) ?_
        rotate_left
        · (intro w'; go_simp; try (with_reducible rfl))
        change wpAny _ _ _ _ _ _ (Act.put _ (some 38) _) _
        try simp only [Act.put, List.setIfInBounds_toArray, List.set_cons_zero, List.set_cons_succ]
        have ck := hrw.cell (k := 5) rfl
        have cf := hrw.free 5
        refine wpAny_ready (rs := [24]) (by kernel_rfl) (by simp) ?_
        refine AllReady.cons rfl (fun K hK => ?_) AllReady.nil
        rw [if_pos (by kernel_rfl)]
        go_simp
        refine hK _ _ ?_
        clear hK K ck cf
        have hrw := hrw.set 5 (.slice (some ⟨qp, 0, none⟩) 2 kp)
        try simp only [Act.put, List.setIfInBounds_toArray, List.set_cons_zero, List.set_cons_succ]
        refine wpAny_done (by kernel_rfl) ?_ _
        clear hS
        have hO : Only (fun j => j = g ∨ j = qi ∨ j = qp) W ((X5.setCell ⟨g, 4, none⟩ (.slice (some ⟨qi, 0, none⟩) 2 ki)).setCell ⟨g, 5, none⟩ (.slice (some ⟨qp, 0, none⟩) 2 kp)) := ((HS.out.mono fun _ _ e => .inr e).setCell (.inl (.inl rfl)) _).setCell (.inl (.inl rfl)) _
        have hO5 : Only (fun j => j = g) X5 ((X5.setCell ⟨g, 4, none⟩ (.slice (some ⟨qi, 0, none⟩) 2 ki)).setCell ⟨g, 5, none⟩ (.slice (some ⟨qp, 0, none⟩) 2 kp)) := ((Only.refl (fun j => j = g) X5).setCell (.inl rfl) _).setCell (.inl rfl) _
        have HI3 := Lib.hid (own_only hi2 hO5 fun j hj e => by injection hj with hj; exact hgi (by rw [← hj] at e; exact e.symm))
        have HP3 := Lib.hid (own_only hp2 hO5 fun j hj e => by injection hj with hj; exact hgp (by rw [← hj] at e; exact e.symm))
        have HRY := Lib.hid (show Row ((X5.setCell ⟨g, 4, none⟩ (.slice (some ⟨qi, 0, none⟩) 2 ki)).setCell ⟨g, 5, none⟩ (.slice (some ⟨qp, 0, none⟩) 2 kp)) g 28 [.int .i64 6, .int .i64 0, .string ⟨#[]⟩, .slice none 0 0, .slice (some ⟨qi, 0, none⟩) 2 ki, .slice (some ⟨qp, 0, none⟩) 2 kp] from hrw)
        have HOY := Lib.hid hO
        clear hi2 hp2 hrw hO hO5 HS
        go_wp2_with fail
        go_end0
        exact ⟨rfl, HRY.out, HI3.out, HP3.out, (Only.of_below HBS.out _).trans HOY.out fun _ _ e => e⟩
      · refine wpOp_step rfl (fun K hK => ?_)
        rw [if_pos (by kernel_rfl)]
        refine wp_build1v (.tmp 32) rfl rfl ?_
        have hS1 := hS.alloc (.cells #[.int .i64 2, .int .i64 5, .string ⟨#[]⟩, .slice none 0 0, .slice none 0 0, .slice none 0 0] 28)
        have hi1 := hi.alloc (.cells #[.int .i64 2, .int .i64 5, .string ⟨#[]⟩, .slice none 0 0, .slice none 0 0, .slice none 0 0] 28)
        have hp1 := hp.alloc (.cells #[.int .i64 2, .int .i64 5, .string ⟨#[]⟩, .slice none 0 0, .slice none 0 0, .slice none 0 0] 28)
        have hn17 : qi < W.heap.size + 1 := by omega
        have r17 := row_atJ (W.drew.alloc (.cells #[.int .u64 1] 23)) [.int .i64 2, .int .i64 5, .string ⟨#[]⟩, .slice none 0 0, .slice none 0 0, .slice none 0 0] 28 (W.heap.size + 1) (by simp)
        have r9 := r9.alloc (.cells #[.int .i64 2, .int .i64 5, .string ⟨#[]⟩, .slice none 0 0, .slice none 0 0, .slice none 0 0] 28)
        refine hK _ _ ⟨hS1, ?_⟩
        clear hK K hS hi hp
        have hS := hS1
        have hi := hi1
        have hp := hp1
        clear hS1 hi1 hp1
        change wpTill _ _ _ _ _ _ _ _ (Act.put _ (some 33) _) _
        try simp only [Act.put, List.setIfInBounds_toArray, List.set_cons_zero, List.set_cons_succ]
        refine wpTill_one (i := 10) (by decide) (by kernel_rfl) ?_
        refine wpOp_step rfl (fun K hK => ?_)
        rw [if_pos (by kernel_rfl)]
        go_simp
        refine (insu_ex B qi ki _ 1 _ _ _ HKI.out.1 HKI.out.2 hi rfl r9.cells (by simp [Value.oneCell'])).mono ?_
        rintro e X4 ⟨rfl, hi1, ho1⟩
        have hS1 : Only (fun j => j = qi ∨ j = qp) W X4 := hS.trans ho1 fun _ _ e => .inl e
        have hp1 := own_only hp ho1 fun j hj e => by injection hj with hj; exact hne (by rw [← hj] at e; exact e.symm)
        have r17 := r17.only ho1 (Nat.ne_of_gt hn17)
        refine hK _ _ ⟨hS1, ?_⟩
        clear hK K hS hi hp
        have hS := hS1
        have hi := hi1
        have hp := hp1
        clear hS1 hi1 hp1
        try simp only [Act.put, List.setIfInBounds_toArray, List.set_cons_zero, List.set_cons_succ]
        refine wpTill_one (i := 18) (by decide) (by kernel_rfl) ?_
        refine wpOp_step rfl (fun K hK => ?_)
        rw [if_pos (by kernel_rfl)]
        go_simp
        refine (insv_ex B qp kp _ 1 _ _ _ HKP.out.1 HKP.out.2 hp rfl r17.cells (by simp [Value.oneCell'])).mono ?_
        rintro e X5 ⟨rfl, hp1, ho2⟩
        have hS1 : Only (fun j => j = qi ∨ j = qp) W X5 := hS.trans ho2 fun _ _ e => .inr e
        have hi1 := own_only hi ho2 fun j hj e => by injection hj with hj; exact hne (by rw [← hj] at e; exact e)
        refine hK _ _ ⟨hS1, ?_⟩
        clear hK K hS hi hp
        have hS := hS1
        have hi2 := hi1
        have hp2 := hp1
        clear hS1 hi1 hp1
        have HS := Lib.hid hS
        have hrw := HRW.out _ hS
        try simp only [Act.put, List.setIfInBounds_toArray, List.set_cons_zero, List.set_cons_succ]
        refine wpTill_take (i := 19) (v := ?_) rfl (by decide) (by kernel_rfl) (by kernel_rfl) (by kernel_rfl) (fun _ _ _ h => h) (by rfl) ?_ hS ?_
        rotate_left
        · (intro w'; go_simp; try (with_reducible rfl))
        change wpTill _ _ _ _ _ _ _ _ (Act.put _ (some 35) _) _
        try simp only [Act.put, List.setIfInBounds_toArray, List.set_cons_zero, List.set_cons_succ]
        refine wpTill_take (i := 20) (v := ?_) rfl (by decide) (by kernel_rfl) (by kernel_rfl) (by kernel_rfl) (fun _ _ _ h => h) (by rfl) ?_ hS ?_
        rotate_left
        · (intro w'; go_simp; try (with_reducible rfl))
        change wpTill _ _ _ _ _ _ _ _ (Act.put _ (some 36) _) _
        try simp only [Act.put, List.setIfInBounds_toArray, List.set_cons_zero, List.set_cons_succ]
        have ck := hrw.cell (k := 4) rfl
        have cf := hrw.free 4
        refine wpTill_part (by kernel_rfl) ?_
        refine wpOp_step rfl (fun K hK => ?_)
        rw [if_pos (by kernel_rfl)]
        go_simp
        refine hK _ _ ?_
        clear hK K ck cf
        have hrw := hrw.set 4 (.slice (some ⟨qi, 0, none⟩) 2 ki)
        try simp only [Act.put, List.setIfInBounds_toArray, List.set_cons_zero, List.set_cons_succ]
        refine wpAny_take (i := 22) (v := ?_) rfl (by kernel_rfl) (by kernel_rfl) (by kernel_rfl) (fun _ _ _ h => h) (Or.inl ⟨by rfl, ?_⟩) ?_
        rotate_left
        · (intro w'; go_simp; try (with_reducible rfl))
        change wpAny _ _ _ _ _ _ (Act.put _ (some 37) _) _
        try simp only [Act.put, List.setIfInBounds_toArray, List.set_cons_zero, List.set_cons_succ]
        refine wpAny_take (i := 23) (v := ?_) rfl (by kernel_rfl) (by kernel_rfl) (by kernel_rfl) (fun _ _ _ h => h) (Or.inl ⟨by rfl, ?_⟩) ?_
        rotate_left
        · (intro w'; go_simp; try (with_reducible rfl))
        change wpAny _ _ _ _ _ _ (Act.put _ (some 38) _) _
        try simp only [Act.put, List.setIfInBounds_toArray, List.set_cons_zero, List.set_cons_succ]
        have ck := hrw.cell (k := 5) rfl
        have cf := hrw.free 5
        refine wpAny_ready (rs := [24]) (by kernel_rfl) (by simp) ?_
        refine AllReady.cons rfl (fun K hK => ?_) AllReady.nil
        rw [if_pos (by kernel_rfl)]
        go_simp
        refine hK _ _ ?_
        clear hK K ck cf
        have hrw := hrw.set 5 (.slice (some ⟨qp, 0, none⟩) 2 kp)
        try simp only [Act.put, List.setIfInBounds_toArray, List.set_cons_zero, List.set_cons_succ]
        refine wpAny_done (by kernel_rfl) ?_ _
        clear hS
        have hO : Only (fun j => j = g ∨ j = qi ∨ j = qp) W ((X5.setCell ⟨g, 4, none⟩ (.slice (some ⟨qi, 0, none⟩) 2 ki)).setCell ⟨g, 5, none⟩ (.slice (some ⟨qp, 0, none⟩) 2 kp)) := ((HS.out.mono fun _ _ e => .inr e).setCell (.inl (.inl rfl)) _).setCell (.inl (.inl rfl)) _
        have hO5 : Only (fun j => j = g) X5 ((X5.setCell ⟨g, 4, none⟩ (.slice (some ⟨qi, 0, none⟩) 2 ki)).setCell ⟨g, 5, none⟩ (.slice (some ⟨qp, 0, none⟩) 2 kp)) := ((Only.refl (fun j => j = g) X5).setCell (.inl rfl) _).setCell (.inl rfl) _
        have HI3 := Lib.hid (own_only hi2 hO5 fun j hj e => by injection hj with hj; exact hgi (by rw [← hj] at e; exact e.symm))
        have HP3 := Lib.hid (own_only hp2 hO5 fun j hj e => by injection hj with hj; exact hgp (by rw [← hj] at e; exact e.symm))
        have HRY := Lib.hid (show Row ((X5.setCell ⟨g, 4, none⟩ (.slice (some ⟨qi, 0, none⟩) 2 ki)).setCell ⟨g, 5, none⟩ (.slice (some ⟨qp, 0, none⟩) 2 kp)) g 28 [.int .i64 6, .int .i64 0, .string ⟨#[]⟩, .slice none 0 0, .slice (some ⟨qi, 0, none⟩) 2 ki, .slice (some ⟨qp, 0, none⟩) 2 kp] from hrw)
        have HOY := Lib.hid hO
        clear hi2 hp2 hrw hO hO5 HS
        go_wp2_with fail
        go_end0
        exact ⟨rfl, HRY.out, HI3.out, HP3.out, (Only.of_below HBS.out _).trans HOY.out fun _ _ e => e⟩
    · refine wpOp_step rfl (fun K hK => ?_)
      rw [if_pos (by kernel_rfl)]
      refine wp_build1v (.tmp 32) rfl rfl ?_
      have hS1 := hS.alloc (.cells #[.int .i64 2, .int .i64 5, .string ⟨#[]⟩, .slice none 0 0, .slice none 0 0, .slice none 0 0] 28)
      have hi1 := hi.alloc (.cells #[.int .i64 2, .int .i64 5, .string ⟨#[]⟩, .slice none 0 0, .slice none 0 0, .slice none 0 0] 28)
      have hp1 := hp.alloc (.cells #[.int .i64 2, .int .i64 5, .string ⟨#[]⟩, .slice none 0 0, .slice none 0 0, .slice none 0 0] 28)
      have hn17 : qi < W.heap.size := by omega
      have r17 := row_atJ W.drew [.int .i64 2, .int .i64 5, .string ⟨#[]⟩, .slice none 0 0, .slice none 0 0, .slice none 0 0] 28 (W.heap.size) (by simp)
      refine hK _ _ ⟨hS1, ?_⟩
      clear hK K hS hi hp
      have hS := hS1
      have hi := hi1
      have hp := hp1
      clear hS1 hi1 hp1
      change wpTill _ _ _ _ _ _ _ _ (Act.put _ (some 33) _) _
      try simp only [Act.put, List.setIfInBounds_toArray, List.set_cons_zero, List.set_cons_succ]
      refine wpTill_one (i := 9) (by decide) (by kernel_rfl) ?_
      refine wpOp_step rfl (fun K hK => ?_)
      rw [if_pos (by kernel_rfl)]
      refine wp_build1u (.tmp 24) rfl 1 rfl ?_
      have hS1 := hS.alloc (.cells #[.int .u64 1] 23)
      have hi1 := hi.alloc (.cells #[.int .u64 1] 23)
      have hp1 := hp.alloc (.cells #[.int .u64 1] 23)
      have r9 := row_atJ (W.drew.alloc (.cells #[.int .i64 2, .int .i64 5, .string ⟨#[]⟩, .slice none 0 0, .slice none 0 0, .slice none 0 0] 28)) [.int .u64 1] 23 (W.heap.size + 1) (by simp)
      have r17 := r17.alloc (.cells #[.int .u64 1] 23)
      refine hK _ _ ⟨hS1, ?_⟩
      clear hK K hS hi hp
      have hS := hS1
      have hi := hi1
      have hp := hp1
      clear hS1 hi1 hp1
      change wpTill _ _ _ _ _ _ _ _ (Act.put _ (some 25) _) _
      try simp only [Act.put, List.setIfInBounds_toArray, List.set_cons_zero, List.set_cons_succ]
      refine wpTill_one (i := 10) (by decide) (by kernel_rfl) ?_
      refine wpOp_step rfl (fun K hK => ?_)
      rw [if_pos (by kernel_rfl)]
      go_simp
      refine (insu_ex B qi ki _ 1 _ _ _ HKI.out.1 HKI.out.2 hi rfl r9.cells (by simp [Value.oneCell'])).mono ?_
      rintro e X4 ⟨rfl, hi1, ho1⟩
      have hS1 : Only (fun j => j = qi ∨ j = qp) W X4 := hS.trans ho1 fun _ _ e => .inl e
      have hp1 := own_only hp ho1 fun j hj e => by injection hj with hj; exact hne (by rw [← hj] at e; exact e.symm)
      have r17 := r17.only ho1 (Nat.ne_of_gt hn17)
      refine hK _ _ ⟨hS1, ?_⟩
      clear hK K hS hi hp
      have hS := hS1
      have hi := hi1
      have hp := hp1
      clear hS1 hi1 hp1
      try simp only [Act.put, List.setIfInBounds_toArray, List.set_cons_zero, List.set_cons_succ]
      refine wpTill_one (i := 18) (by decide) (by kernel_rfl) ?_
      refine wpOp_step rfl (fun K hK => ?_)
      rw [if_pos (by kernel_rfl)]
      go_simp
      refine (insv_ex B qp kp _ 1 _ _ _ HKP.out.1 HKP.out.2 hp rfl r17.cells (by simp [Value.oneCell'])).mono ?_
      rintro e X5 ⟨rfl, hp1, ho2⟩
      have hS1 : Only (fun j => j = qi ∨ j = qp) W X5 := hS.trans ho2 fun _ _ e => .inr e
      have hi1 := own_only hi ho2 fun j hj e => by injection hj with hj; exact hne (by rw [← hj] at e; exact e)
      refine hK _ _ ⟨hS1, ?_⟩
      clear hK K hS hi hp
      have hS := hS1
      have hi2 := hi1
      have hp2 := hp1
      clear hS1 hi1 hp1
      have HS := Lib.hid hS
      have hrw := HRW.out _ hS
      try simp only [Act.put, List.setIfInBounds_toArray, List.set_cons_zero, List.set_cons_succ]
      refine wpTill_take (i := 19) (v := ?_) rfl (by decide) (by kernel_rfl) (by kernel_rfl) (by kernel_rfl) (fun _ _ _ h => h) (by rfl) ?_ hS ?_
      rotate_left
      · (intro w'; go_simp; try (with_reducible rfl))
      change wpTill _ _ _ _ _ _ _ _ (Act.put _ (some 35) _) _
      try simp only [Act.put, List.setIfInBounds_toArray, List.set_cons_zero, List.set_cons_succ]
      refine wpTill_take (i := 20) (v := ?_) rfl (by decide) (by kernel_rfl) (by kernel_rfl) (by kernel_rfl) (fun _ _ _ h => h) (by rfl) ?_ hS ?_
      rotate_left
      · (intro w'; go_simp; try (with_reducible rfl))
      change wpTill _ _ _ _ _ _ _ _ (Act.put _ (some 36) _) _
      try simp only [Act.put, List.setIfInBounds_toArray, List.set_cons_zero, List.set_cons_succ]
      have ck := hrw.cell (k := 4) rfl
      have cf := hrw.free 4
      refine wpTill_part (by kernel_rfl) ?_
      refine wpOp_step rfl (fun K hK => ?_)
      rw [if_pos (by kernel_rfl)]
      go_simp
      refine hK _ _ ?_
      clear hK K ck cf
      have hrw := hrw.set 4 (.slice (some ⟨qi, 0, none⟩) 2 ki)
      try simp only [Act.put, List.setIfInBounds_toArray, List.set_cons_zero, List.set_cons_succ]
      refine wpAny_take (i := 22) (v := ?_) rfl (by kernel_rfl) (by kernel_rfl) (by kernel_rfl) (fun _ _ _ h => h) (Or.inl ⟨by rfl, ?_⟩) ?_
      rotate_left
      · (intro w'; go_simp; try (with_reducible rfl))
      change wpAny _ _ _ _ _ _ (Act.put _ (some 37) _) _
      try simp only [Act.put, List.setIfInBounds_toArray, List.set_cons_zero, List.set_cons_succ]
      refine wpAny_take (i := 23) (v := ?_) rfl (by kernel_rfl) (by kernel_rfl) (by kernel_rfl) (fun _ _ _ h => h) (Or.inl ⟨by rfl, ?_⟩) ?_
      rotate_left
      · (intro w'; go_simp; try (with_reducible rfl))
      change wpAny _ _ _ _ _ _ (Act.put _ (some 38) _) _
      try simp only [Act.put, List.setIfInBounds_toArray, List.set_cons_zero, List.set_cons_succ]
      have ck := hrw.cell (k := 5) rfl
      have cf := hrw.free 5
      refine wpAny_ready (rs := [24]) (by kernel_rfl) (by simp) ?_
      refine AllReady.cons rfl (fun K hK => ?_) AllReady.nil
      rw [if_pos (by kernel_rfl)]
      go_simp
      refine hK _ _ ?_
      clear hK K ck cf
      have hrw := hrw.set 5 (.slice (some ⟨qp, 0, none⟩) 2 kp)
      try simp only [Act.put, List.setIfInBounds_toArray, List.set_cons_zero, List.set_cons_succ]
      refine wpAny_done (by kernel_rfl) ?_ _
      clear hS
      have hO : Only (fun j => j = g ∨ j = qi ∨ j = qp) W ((X5.setCell ⟨g, 4, none⟩ (.slice (some ⟨qi, 0, none⟩) 2 ki)).setCell ⟨g, 5, none⟩ (.slice (some ⟨qp, 0, none⟩) 2 kp)) := ((HS.out.mono fun _ _ e => .inr e).setCell (.inl (.inl rfl)) _).setCell (.inl (.inl rfl)) _
      have hO5 : Only (fun j => j = g) X5 ((X5.setCell ⟨g, 4, none⟩ (.slice (some ⟨qi, 0, none⟩) 2 ki)).setCell ⟨g, 5, none⟩ (.slice (some ⟨qp, 0, none⟩) 2 kp)) := ((Only.refl (fun j => j = g) X5).setCell (.inl rfl) _).setCell (.inl rfl) _
      have HI3 := Lib.hid (own_only hi2 hO5 fun j hj e => by injection hj with hj; exact hgi (by rw [← hj] at e; exact e.symm))
      have HP3 := Lib.hid (own_only hp2 hO5 fun j hj e => by injection hj with hj; exact hgp (by rw [← hj] at e; exact e.symm))
      have HRY := Lib.hid (show Row ((X5.setCell ⟨g, 4, none⟩ (.slice (some ⟨qi, 0, none⟩) 2 ki)).setCell ⟨g, 5, none⟩ (.slice (some ⟨qp, 0, none⟩) 2 kp)) g 28 [.int .i64 6, .int .i64 0, .string ⟨#[]⟩, .slice none 0 0, .slice (some ⟨qi, 0, none⟩) 2 ki, .slice (some ⟨qp, 0, none⟩) 2 kp] from hrw)
      have HOY := Lib.hid hO
      clear hi2 hp2 hrw hO hO5 HS
      go_wp2_with fail
      go_end0
      exact ⟨rfl, HRY.out, HI3.out, HP3.out, (Only.of_below HBS.out _).trans HOY.out fun _ _ e => e⟩
end

end Go.Proofs.YtmiadkhfjkaidaaGreatDoor
