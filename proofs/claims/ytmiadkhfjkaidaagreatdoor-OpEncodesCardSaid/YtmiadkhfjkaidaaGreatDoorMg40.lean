/- What stands in a list of two taken out, and laid in again behind the other. -/
import Derived.Test.YtmiadkhfjkaidaaGreatDoorMg39
import Derived.Test.YtmiadkhfjkaidaaGreatDoorMg36
namespace Go.Proofs.YtmiadkhfjkaidaaGreatDoor
section
set_option maxRecDepth 100000
set_option linter.unusedSimpArgs false
set_option linter.unusedVariables false
open Go.RowKit

section
variable {P : Program} {ops : Array Oper} {Q : Exit → Act → World → Prop} {md : Region.Mode} {S : World → Prop} {c : Nat}
/-- Two numbers come up, neither of them the one that parts. -/
theorem wpTill_two {i j : Nat} {fuel : Nat} {listed : Array Bool} {a : Act} {w : World} (hic : i ≠ c) (hjc : j ≠ c) (hr : Region.ready md ops listed = [i, j])
    (h1 : wpOp P ops Q i (fun a' w' => S w' ∧ wpTill P md ops Q S c fuel (listed.setIfInBounds i true) a' w') a w)
    (h2 : wpOp P ops Q j (fun a' w' => S w' ∧ wpTill P md ops Q S c fuel (listed.setIfInBounds j true) a' w') a w) : wpTill P md ops Q S c (fuel + 1) listed a w :=
  ⟨fun h0 => (by rw [h0] at hr; cases hr), fun k hk => by
    rw [hr] at hk
    simp only [List.mem_cons, List.not_mem_nil, or_false] at hk
    rcases hk with rfl | rfl
    · exact wpOp_mono (fun a' w' h' => by rw [if_neg hic]; exact h') h1
    · exact wpOp_mono (fun a' w' h' => by rw [if_neg hjc]; exact h') h2⟩
end
set_option maxHeartbeats 3200000 in
theorem insu_ex (B g cap q cq : Nat) (xs news : List Value) (w : World) (hc2 : 2 ≤ cap) (hcm : cap ≤ maxLen) (h : w.ownsRow B 23 1 (.slice (some ⟨g, 0, none⟩) 1 cap) 1 xs) (hl : news.length = 1) (hq : Cells w q news) (h1 : ∀ u ∈ news, u.oneCell' = true) :
    Calls Tryz.prog 114 #[.slice (some ⟨g, 0, none⟩) 1 cap, .int .i64 1, .slice (some ⟨q, 0, none⟩) 1 cq] w fun e w' => e = .returned (.slice (some ⟨g, 0, none⟩) 2 cap) ∧ w'.ownsRow B 23 1 (.slice (some ⟨g, 0, none⟩) 2 cap) 2 (xs ++ news) ∧ Only (fun j => j = g) w w' := by
  obtain ⟨i, z, hi, hz, hs, hb, hzs⟩ := info_u64J
  have hcm2 : cap ≤ 9223372036854775807 := by unfold maxLen at hcm; omega
  have HO := Lib.hid h
  have HQ := Lib.hid (fun j u (hj : news[j]? = some u) => show w.cell? ((⟨q, 0, none⟩ : Addr).add j) = some u by rw [add0J]; exact hq j u hj)
  have H1 := Lib.hid h1
  have hci : (1 : Int) ≤ (cap : Int) := by omega
  have hcn : ¬ cap = 1 := by omega
  clear h hcm hq h1
  go_enter Tryz.func114, Tryz.ntmps114
  go_wp2_with (at_builtin; refine wpList_append_fits _ rfl (.tmp 23) (.tmp 24) 25 rfl B 23 i 1 Tryz.underlying25 hi hs g 1 cap xs rfl HO.out ⟨q, 0, none⟩ 1 cq news rfl (by omega) HQ.out H1.out (by omega) ?_)
  intro w1 ho1 hg1
  have HO1 := Lib.hid ho1
  have HG1 := Lib.hid (grown_onlyJ hg1)
  clear ho1 hg1
  go_wp2_with fail
  go_ret
  exact ⟨rfl, HO1.out, HG1.out⟩
set_option maxHeartbeats 3200000 in
theorem insv_ex (B g cap q cq : Nat) (xs news : List Value) (w : World) (hc2 : 2 ≤ cap) (hcm : cap ≤ maxLen) (h : w.ownsRow B 28 6 (.slice (some ⟨g, 0, none⟩) 1 cap) 1 xs) (hl : news.length = 6) (hq : Cells w q news) (h1 : ∀ u ∈ news, u.oneCell' = true) :
    Calls Tryz.prog 115 #[.slice (some ⟨g, 0, none⟩) 1 cap, .int .i64 1, .slice (some ⟨q, 0, none⟩) 1 cq] w fun e w' => e = .returned (.slice (some ⟨g, 0, none⟩) 2 cap) ∧ w'.ownsRow B 28 6 (.slice (some ⟨g, 0, none⟩) 2 cap) 2 (xs ++ news) ∧ Only (fun j => j = g) w w' := by
  obtain ⟨i, z, hi, hz, hs, hb, hzs⟩ := info_valJ
  have hcm2 : cap ≤ 9223372036854775807 := by unfold maxLen at hcm; omega
  have HO := Lib.hid h
  have HQ := Lib.hid (fun j u (hj : news[j]? = some u) => show w.cell? ((⟨q, 0, none⟩ : Addr).add j) = some u by rw [add0J]; exact hq j u hj)
  have H1 := Lib.hid h1
  have hci : (1 : Int) ≤ (cap : Int) := by omega
  have hcn : ¬ cap = 1 := by omega
  clear h hcm hq h1
  go_enter Tryz.func115, Tryz.ntmps115
  go_wp2_with (at_builtin; refine wpList_append_fits _ rfl (.tmp 23) (.tmp 24) 26 rfl B 28 i 6 Tryz.underlying26 hi hs g 1 cap xs rfl HO.out ⟨q, 0, none⟩ 1 cq news rfl (by omega) HQ.out H1.out (by omega) ?_)
  intro w1 ho1 hg1
  have HO1 := Lib.hid ho1
  have HG1 := Lib.hid (grown_onlyJ hg1)
  clear ho1 hg1
  go_wp2_with fail
  go_ret
  exact ⟨rfl, HO1.out, HG1.out⟩
set_option maxHeartbeats 6400000 in
theorem goout_ex (B g qi ki qp kp : Nat) (w : World) (hgB : g < B) (hBw : B ≤ w.heap.size) (hki : 2 ≤ ki ∧ ki ≤ maxLen) (hkp : 2 ≤ kp ∧ kp ≤ maxLen) (hne : qi ≠ qp) (h : Row w g 28 [.int .i64 6, .int .i64 0, .string ⟨#[]⟩, .slice none 0 0, .slice (some ⟨qi, 0, none⟩) 2 ki, .slice (some ⟨qp, 0, none⟩) 2 kp]) (hi : w.ownsRow B 23 1 (.slice (some ⟨qi, 0, none⟩) 2 ki) 2 pI) (hp : w.ownsRow B 28 6 (.slice (some ⟨qp, 0, none⟩) 2 kp) 2 pP) :
    Calls Tryz.prog 77 #[.pointer (some ⟨g, 0, none⟩), .int .i64 0] w fun e w' => e = .returned (.agg #[.int .i64 2, .int .i64 5, .string ⟨#[]⟩, .slice none 0 0, .slice none 0 0, .slice none 0 0]) ∧ Row w' g 28 [.int .i64 6, .int .i64 0, .string ⟨#[]⟩, .slice none 0 0, .slice (some ⟨qi, 0, none⟩) 1 ki, .slice (some ⟨qp, 0, none⟩) 1 kp] ∧ w'.ownsRow B 23 1 (.slice (some ⟨qi, 0, none⟩) 1 ki) 1 [.int .u64 2] ∧ w'.ownsRow B 28 6 (.slice (some ⟨qp, 0, none⟩) 1 kp) 1 [.int .i64 2, .int .i64 6, .string ⟨#[]⟩, .slice none 0 0, .slice none 0 0, .slice none 0 0] ∧ Only (fun j => j = g ∨ j = qi ∨ j = qp) w w' := by
  have hgi : g ≠ qi := by have := (hi.lt qi rfl).1; omega
  have hgp : g ≠ qp := by have := (hp.lt qp rfl).1; omega
  have hlt := h.lt
  have hpi := (hi.lt qi rfl).2
  have hpp := (hp.lt qp rfl).2
  have c5 := (h.alloc (.cells #[.int .i64 0, .int .i64 0, .string ⟨#[]⟩, .slice none 0 0, .slice none 0 0, .slice none 0 0] 28)).cell (k := 5) rfl
  have hpa := hp.alloc (.cells #[.int .i64 0, .int .i64 0, .string ⟨#[]⟩, .slice none 0 0, .slice none 0 0, .slice none 0 0] 28)
  have e0 := own_cellJ hpa (k := 0) rfl
  have e1 := own_cellJ hpa (k := 1) rfl
  have e2 := own_cellJ hpa (k := 2) rfl
  have e3 := own_cellJ hpa (k := 3) rfl
  have e4 := own_cellJ hpa (k := 4) rfl
  have e5 := own_cellJ hpa (k := 5) rfl
  have HR := Lib.hid h
  have HI := Lib.hid hi
  have HP := Lib.hid hp
  have HKI := Lib.hid hki
  have HKP := Lib.hid hkp
  clear h hi hp hpa hki hkp
  go_enter Tryz.func77, Tryz.ntmps77
  go_wp2_with fail
  have hr := (HR.out.alloc (.cells #[.int .i64 0, .int .i64 0, .string ⟨#[]⟩, .slice none 0 0, .slice none 0 0, .slice none 0 0] 28)).alloc (.cells #[.int .i64 2, .int .i64 5, .string ⟨#[]⟩, .slice none 0 0, .slice none 0 0, .slice none 0 0] 28)
  have hi := (HI.out.alloc (.cells #[.int .i64 0, .int .i64 0, .string ⟨#[]⟩, .slice none 0 0, .slice none 0 0, .slice none 0 0] 28)).alloc (.cells #[.int .i64 2, .int .i64 5, .string ⟨#[]⟩, .slice none 0 0, .slice none 0 0, .slice none 0 0] 28)
  have hp := (HP.out.alloc (.cells #[.int .i64 0, .int .i64 0, .string ⟨#[]⟩, .slice none 0 0, .slice none 0 0, .slice none 0 0] 28)).alloc (.cells #[.int .i64 2, .int .i64 5, .string ⟨#[]⟩, .slice none 0 0, .slice none 0 0, .slice none 0 0] 28)
  have ht := Row.new1 w (.cells #[.int .i64 0, .int .i64 0, .string ⟨#[]⟩, .slice none 0 0, .slice none 0 0, .slice none 0 0] 28) [.int .i64 2, .int .i64 5, .string ⟨#[]⟩, .slice none 0 0, .slice none 0 0, .slice none 0 0] 28
  have hz := (Row.new w [.int .i64 0, .int .i64 0, .string ⟨#[]⟩, .slice none 0 0, .slice none 0 0, .slice none 0 0] 28).alloc (.cells #[.int .i64 2, .int .i64 5, .string ⟨#[]⟩, .slice none 0 0, .slice none 0 0, .slice none 0 0] 28)
  have hbw := below2O w (.cells #[.int .i64 0, .int .i64 0, .string ⟨#[]⟩, .slice none 0 0, .slice none 0 0, .slice none 0 0] 28) (.cells #[.int .i64 2, .int .i64 5, .string ⟨#[]⟩, .slice none 0 0, .slice none 0 0, .slice none 0 0] 28)
  have hsz : ((w.alloc (.cells #[.int .i64 0, .int .i64 0, .string ⟨#[]⟩, .slice none 0 0, .slice none 0 0, .slice none 0 0] 28)).alloc (.cells #[.int .i64 2, .int .i64 5, .string ⟨#[]⟩, .slice none 0 0, .slice none 0 0, .slice none 0 0] 28)).heap.size = w.heap.size + 1 + 1 := by simp
  generalize hW : ((w.alloc (.cells #[.int .i64 0, .int .i64 0, .string ⟨#[]⟩, .slice none 0 0, .slice none 0 0, .slice none 0 0] 28)).alloc (.cells #[.int .i64 2, .int .i64 5, .string ⟨#[]⟩, .slice none 0 0, .slice none 0 0, .slice none 0 0] 28)) = W at *
  have HRW := Lib.hid (fun (w' : World) (h : Only (fun j => j = qi ∨ j = qp) W w') => hr.only h (show ¬ (g = qi ∨ g = qp) by omega))
  have hS0 : (fun w' : World => Only (fun j => j = qi ∨ j = qp) W w') W.drew := (Only.refl _ W).drew
  have hi0 := hi.drew
  have hp0 := hp.drew
  have HT := Lib.hid ht
  have HZ := Lib.hid hz
  have HBW := Lib.hid hbw
  clear hr hi hp ht hz hbw hW c5 e0 e1 e2 e3 e4 e5
  refine wp_region_till 20 (fun w' : World => Only (fun j => j = qi ∨ j = qp) W w') (by kernel_rfl) ?_
  change wpTill _ _ _ _ _ _ _ _ _ (World.drew _)
  have hS := hS0
  clear hS0
  refine wpTill_take (i := 0) (v := ?_) rfl (by decide) (by kernel_rfl) (by kernel_rfl) (by kernel_rfl) (fun _ _ _ h => h) (by rfl) ?_ hS ?_
  rotate_left
  · (intro w'; go_simp; try (with_reducible rfl))
  change wpTill _ _ _ _ _ _ _ _ (Act.put _ (some 13) _) _
  try simp only [Act.put, List.setIfInBounds_toArray, List.set_cons_zero, List.set_cons_succ]
  refine wpTill_take (i := 1) (v := ?_) rfl (by decide) (by kernel_rfl) (by kernel_rfl) (by kernel_rfl) (fun _ _ _ h => h) (by rfl) ?_ hS ?_
  rotate_left
  · (intro w'; go_simp; try (with_reducible rfl))
  change wpTill _ _ _ _ _ _ _ _ (Act.put _ (some 14) _) _
  try simp only [Act.put, List.setIfInBounds_toArray, List.set_cons_zero, List.set_cons_succ]
  refine wpTill_take (i := 2) (v := ?_) rfl (by decide) (by kernel_rfl) (by kernel_rfl) (by kernel_rfl) (fun _ _ _ h => h) (by rfl) ?_ hS ?_
  rotate_left
  · (intro w'; go_simp; try (with_reducible rfl))
  change wpTill _ _ _ _ _ _ _ _ (Act.put _ (some 15) _) _
  try simp only [Act.put, List.setIfInBounds_toArray, List.set_cons_zero, List.set_cons_succ]
  refine wpTill_take (i := 3) (v := ?_) rfl (by decide) (by kernel_rfl) (by kernel_rfl) (by kernel_rfl) (fun _ _ _ h => h) (by rfl) ?_ hS ?_
  rotate_left
  · (intro w'; go_simp; try (with_reducible rfl))
  change wpTill _ _ _ _ _ _ _ _ (Act.put _ (some 16) _) _
  try simp only [Act.put, List.setIfInBounds_toArray, List.set_cons_zero, List.set_cons_succ]
  refine wpTill_take (i := 4) (v := ?_) rfl (by decide) (by kernel_rfl) (by kernel_rfl) (by kernel_rfl) (fun _ _ _ h => h) (by rfl) ?_ hS ?_
  rotate_left
  · (intro w'; go_simp; try (with_reducible rfl))
  change wpTill _ _ _ _ _ _ _ _ (Act.put _ (some 17) _) _
  try simp only [Act.put, List.setIfInBounds_toArray, List.set_cons_zero, List.set_cons_succ]
  refine wpTill_load (i := 5) (v := .slice (some ⟨qi, 0, none⟩) 2 ki) rfl (by decide) (by kernel_rfl) (by kernel_rfl) (by kernel_rfl) (fun _ _ _ h => h) (by kernel_rfl) (by rfl) (fun w' hSw => ex_ldO 25 (.tmp 17) rfl _ _ rfl (ld_u64s ((HRW.out w' hSw).cell (k := 4) rfl))) hS ?_
  change wpTill _ _ _ _ _ _ _ _ (Act.put _ (some 18) _) _
  try simp only [Act.put, List.setIfInBounds_toArray, List.set_cons_zero, List.set_cons_succ]
  refine wpTill_take (i := 6) (v := ?_) rfl (by decide) (by kernel_rfl) (by kernel_rfl) (by kernel_rfl) (fun _ _ _ h => h) (by rfl) ?_ hS ?_
  rotate_left
  · (intro w'; go_simp; try (with_reducible rfl))
  change wpTill _ _ _ _ _ _ _ _ (Act.put _ (some 19) _) _
  try simp only [Act.put, List.setIfInBounds_toArray, List.set_cons_zero, List.set_cons_succ]
  refine wpTill_take (i := 7) (v := ?_) rfl (by decide) (by kernel_rfl) (by kernel_rfl) (by kernel_rfl) (fun _ _ _ h => h) (by rfl) ?_ hS ?_
  rotate_left
  · (intro w'; go_simp; try (with_reducible rfl))
  change wpTill _ _ _ _ _ _ _ _ (Act.put _ (some 20) _) _
  try simp only [Act.put, List.setIfInBounds_toArray, List.set_cons_zero, List.set_cons_succ]
  refine wpTill_take (i := 8) (v := ?_) rfl (by decide) (by kernel_rfl) (by kernel_rfl) (by kernel_rfl) (fun _ _ _ h => h) (by rfl) ?_ hS ?_
  rotate_left
  · (intro w'; go_simp; try (with_reducible rfl))
  change wpTill _ _ _ _ _ _ _ _ (Act.put _ (some 21) _) _
  try simp only [Act.put, List.setIfInBounds_toArray, List.set_cons_zero, List.set_cons_succ]
  refine wpTill_take (i := 10) (v := ?_) rfl (by decide) (by kernel_rfl) (by kernel_rfl) (by kernel_rfl) (fun _ _ _ h => h) (by rfl) ?_ hS ?_
  rotate_left
  · (intro w'; go_simp; try (with_reducible rfl))
  change wpTill _ _ _ _ _ _ _ _ (Act.put _ (some 23) _) _
  try simp only [Act.put, List.setIfInBounds_toArray, List.set_cons_zero, List.set_cons_succ]
  refine wpTill_take (i := 11) (v := ?_) rfl (by decide) (by kernel_rfl) (by kernel_rfl) (by kernel_rfl) (fun _ _ _ h => h) (by rfl) ?_ hS ?_
  rotate_left
  · (intro w'; go_simp; try (with_reducible rfl))
  change wpTill _ _ _ _ _ _ _ _ (Act.put _ (some 24) _) _
  try simp only [Act.put, List.setIfInBounds_toArray, List.set_cons_zero, List.set_cons_succ]
  refine wpTill_take (i := 12) (v := ?_) rfl (by decide) (by kernel_rfl) (by kernel_rfl) (by kernel_rfl) (fun _ _ _ h => h) (by rfl) ?_ hS ?_
  rotate_left
  · (intro w'; go_simp; try (with_reducible rfl))
  change wpTill _ _ _ _ _ _ _ _ (Act.put _ (some 25) _) _
  try simp only [Act.put, List.setIfInBounds_toArray, List.set_cons_zero, List.set_cons_succ]
  refine wpTill_load (i := 13) (v := .slice (some ⟨qp, 0, none⟩) 2 kp) rfl (by decide) (by kernel_rfl) (by kernel_rfl) (by kernel_rfl) (fun _ _ _ h => h) (by kernel_rfl) (by rfl) (fun w' hSw => ex_ldO 26 (.tmp 25) rfl _ _ rfl (ldp_vals ((HRW.out w' hSw).cell (k := 5) rfl))) hS ?_
  change wpTill _ _ _ _ _ _ _ _ (Act.put _ (some 26) _) _
  try simp only [Act.put, List.setIfInBounds_toArray, List.set_cons_zero, List.set_cons_succ]
  refine wpTill_take (i := 14) (v := ?_) rfl (by decide) (by kernel_rfl) (by kernel_rfl) (by kernel_rfl) (fun _ _ _ h => h) (by rfl) ?_ hS ?_
  rotate_left
  · (intro w'; go_simp; try (with_reducible rfl))
  change wpTill _ _ _ _ _ _ _ _ (Act.put _ (some 27) _) _
  try simp only [Act.put, List.setIfInBounds_toArray, List.set_cons_zero, List.set_cons_succ]
  refine wpTill_take (i := 15) (v := ?_) rfl (by decide) (by kernel_rfl) (by kernel_rfl) (by kernel_rfl) (fun _ _ _ h => h) (by rfl) ?_ hS ?_
  rotate_left
  · (intro w'; go_simp; try (with_reducible rfl))
  change wpTill _ _ _ _ _ _ _ _ (Act.put _ (some 28) _) _
  try simp only [Act.put, List.setIfInBounds_toArray, List.set_cons_zero, List.set_cons_succ]
  refine wpTill_take (i := 16) (v := ?_) rfl (by decide) (by kernel_rfl) (by kernel_rfl) (by kernel_rfl) (fun _ _ _ h => h) (by rfl) ?_ hS ?_
  rotate_left
  · (intro w'; go_simp; try (with_reducible rfl))
  change wpTill _ _ _ _ _ _ _ _ (Act.put _ (some 29) _) _
  try simp only [Act.put, List.setIfInBounds_toArray, List.set_cons_zero, List.set_cons_succ]
  refine wpTill_one (i := 9) (by decide) (by kernel_rfl) ?_
  refine wpOp_step rfl (fun K hK => ?_)
  rw [if_pos (by kernel_rfl)]
  go_simp
  refine (delu_ex B qi ki _ (Nat.le_trans hBw (by have := hS.size; omega)) HKI.out.1 HKI.out.2 hi0).mono ?_
  rintro e X4 ⟨rfl, hi1, ho1⟩
  have hS1 : Only (fun j => j = qi ∨ j = qp) W X4 := hS.trans ho1 fun _ _ e => .inl e
  have hp1 := own_only hp0 ho1 fun j hj e => by injection hj with hj; exact hne (by rw [← hj] at e; exact e.symm)
  refine hK _ _ ⟨hS1, ?_⟩
  clear hK K hS hi0 hp0
  have hS := hS1
  clear hS1
  try simp only [Act.put, List.setIfInBounds_toArray, List.set_cons_zero, List.set_cons_succ]
  refine wpTill_one (i := 17) (by decide) (by kernel_rfl) ?_
  refine wpOp_step rfl (fun K hK => ?_)
  rw [if_pos (by kernel_rfl)]
  go_simp
  refine (delv_ex B qp kp _ (Nat.le_trans hBw (by have := hS.size; omega)) HKP.out.1 HKP.out.2 hp1).mono ?_
  rintro e X5 ⟨rfl, hp2, ho2⟩
  have hS1 : Only (fun j => j = qi ∨ j = qp) W X5 := hS.trans ho2 fun _ _ e => .inr e
  have hi2 := own_only hi1 ho2 fun j hj e => by injection hj with hj; exact hne (by rw [← hj] at e; exact e)
  refine hK _ _ ⟨hS1, ?_⟩
  clear hK K hS hi1 hp1
  have hS := hS1
  clear hS1
  have HS := Lib.hid hS
  have hrw := HRW.out _ hS
  try simp only [Act.put, List.setIfInBounds_toArray, List.set_cons_zero, List.set_cons_succ]
  refine wpTill_take (i := 18) (v := ?_) rfl (by decide) (by kernel_rfl) (by kernel_rfl) (by kernel_rfl) (fun _ _ _ h => h) (by rfl) ?_ hS ?_
  rotate_left
  · (intro w'; go_simp; try (with_reducible rfl))
  change wpTill _ _ _ _ _ _ _ _ (Act.put _ (some 31) _) _
  try simp only [Act.put, List.setIfInBounds_toArray, List.set_cons_zero, List.set_cons_succ]
  refine wpTill_take (i := 19) (v := ?_) rfl (by decide) (by kernel_rfl) (by kernel_rfl) (by kernel_rfl) (fun _ _ _ h => h) (by rfl) ?_ hS ?_
  rotate_left
  · (intro w'; go_simp; try (with_reducible rfl))
  change wpTill _ _ _ _ _ _ _ _ (Act.put _ (some 32) _) _
  try simp only [Act.put, List.setIfInBounds_toArray, List.set_cons_zero, List.set_cons_succ]
  have ck := hrw.cell (k := 4) rfl
  have cf := hrw.free 4
  refine wpTill_part (by kernel_rfl) ?_
  refine wpOp_step rfl (fun K hK => ?_)
  rw [if_pos (by kernel_rfl)]
  go_simp
  refine hK _ _ ?_
  clear hK K ck cf
  have hrw := hrw.set 4 (.slice (some ⟨qi, 0, none⟩) 1 ki)
  try simp only [Act.put, List.setIfInBounds_toArray, List.set_cons_zero, List.set_cons_succ]
  refine wpAny_take (i := 21) (v := ?_) rfl (by kernel_rfl) (by kernel_rfl) (by kernel_rfl) (fun _ _ _ h => h) (Or.inl ⟨by rfl, ?_⟩) ?_
  rotate_left
  · (intro w'; go_simp; try (with_reducible rfl))
  change wpAny _ _ _ _ _ _ (Act.put _ (some 33) _) _
  try simp only [Act.put, List.setIfInBounds_toArray, List.set_cons_zero, List.set_cons_succ]
  refine wpAny_take (i := 22) (v := ?_) rfl (by kernel_rfl) (by kernel_rfl) (by kernel_rfl) (fun _ _ _ h => h) (Or.inl ⟨by rfl, ?_⟩) ?_
  rotate_left
  · (intro w'; go_simp; try (with_reducible rfl))
  change wpAny _ _ _ _ _ _ (Act.put _ (some 34) _) _
  try simp only [Act.put, List.setIfInBounds_toArray, List.set_cons_zero, List.set_cons_succ]
  have ck := hrw.cell (k := 5) rfl
  have cf := hrw.free 5
  refine wpAny_ready (rs := [23]) (by kernel_rfl) (by simp) ?_
  refine AllReady.cons rfl (fun K hK => ?_) AllReady.nil
  rw [if_pos (by kernel_rfl)]
  go_simp
  refine hK _ _ ?_
  clear hK K ck cf
  have hrw := hrw.set 5 (.slice (some ⟨qp, 0, none⟩) 1 kp)
  try simp only [Act.put, List.setIfInBounds_toArray, List.set_cons_zero, List.set_cons_succ]
  refine wpAny_done (by kernel_rfl) ?_ _
  clear hS
  have hO : Only (fun j => j = g ∨ j = qi ∨ j = qp) W ((X5.setCell ⟨g, 4, none⟩ (.slice (some ⟨qi, 0, none⟩) 1 ki)).setCell ⟨g, 5, none⟩ (.slice (some ⟨qp, 0, none⟩) 1 kp)) := ((HS.out.mono fun _ _ e => .inr e).setCell (.inl (.inl rfl)) _).setCell (.inl (.inl rfl)) _
  have hO5 : Only (fun j => j = g) X5 ((X5.setCell ⟨g, 4, none⟩ (.slice (some ⟨qi, 0, none⟩) 1 ki)).setCell ⟨g, 5, none⟩ (.slice (some ⟨qp, 0, none⟩) 1 kp)) := ((Only.refl (fun j => j = g) X5).setCell (.inl rfl) _).setCell (.inl rfl) _
  have hi3 := own_only hi2 hO5 fun j hj e => by injection hj with hj; exact hgi (by rw [← hj] at e; exact e.symm)
  have hp3 := own_only hp2 hO5 fun j hj e => by injection hj with hj; exact hgp (by rw [← hj] at e; exact e.symm)
  have ht3 := HT.out.only hO (by omega)
  have hz3 := HZ.out.only hO (by omega)
  have hrw : Row ((X5.setCell ⟨g, 4, none⟩ (.slice (some ⟨qi, 0, none⟩) 1 ki)).setCell ⟨g, 5, none⟩ (.slice (some ⟨qp, 0, none⟩) 1 kp)) g 28 [.int .i64 6, .int .i64 0, .string ⟨#[]⟩, .slice none 0 0, .slice (some ⟨qi, 0, none⟩) 1 ki, .slice (some ⟨qp, 0, none⟩) 1 kp] := hrw
  generalize ((X5.setCell ⟨g, 4, none⟩ (.slice (some ⟨qi, 0, none⟩) 1 ki)).setCell ⟨g, 5, none⟩ (.slice (some ⟨qp, 0, none⟩) 1 kp)) = Y at *
  have HRY := Lib.hid hrw
  have HI3 := Lib.hid hi3
  have HP3 := Lib.hid hp3
  have HT3 := Lib.hid ht3
  have HZ3 := Lib.hid hz3
  have HOY := Lib.hid hO
  clear hi2 hp2 hrw hi3 hp3 ht3 hz3 hO hO5 HS
  go_wp2_with (first
    | (refine wpList_load_row rfl 28 (.tmp 5) rfl (w.heap.size + 1) rfl 28 _ (0, 0) _ HT3.out Tryz.underlying28 rfl (v_info6 _ _ _ _ _ _) ?_)
    | (refine wpList_store_row rfl 28 (.tmp 4) (.tmp 35) rfl w.heap.size #[.int .i64 2, .int .i64 5, .string ⟨#[]⟩, .slice none 0 0, .slice none 0 0, .slice none 0 0] rfl rfl 28 _ HZ3.out (v_info6 _ _ _ _ _ _) rfl (by simp [Value.oneCell']) ?_))
  have hgot := setRow_heap Y w.heap.size _ #[.int .i64 2, .int .i64 5, .string ⟨#[]⟩, .slice none 0 0, .slice none 0 0, .slice none 0 0] _ _ HZ3.out
  (try simp only [Exit.inBlock, Exit.then])
  refine bodyPost_ret (results_cell_row (by rfl) _ _ w.heap.size _ _ _ _ (by rfl) hgot Tryz.underlying28 rfl (v_info6 _ _ _ _ _ _)) rfl ?_
  have hO2 := only_setRow Y w.heap.size #[.int .i64 2, .int .i64 5, .string ⟨#[]⟩, .slice none 0 0, .slice none 0 0, .slice none 0 0]
  refine ⟨rfl, HRY.out.only hO2 (by omega), own_only HI3.out hO2 fun j hj e => by injection hj with hj; have hj2 : qi = j := hj; have e2 : j = w.heap.size := e; omega, own_only HP3.out hO2 fun j hj e => by injection hj with hj; have hj2 : qp = j := hj; have e2 : j = w.heap.size := e; omega, ?_⟩
  exact ((Only.of_below HBW.out _).trans HOY.out fun _ _ e => e).trans (hO2.mono fun j _ e => e) fun j hj e => by have e2 : j = w.heap.size := e; omega
end

end Go.Proofs.YtmiadkhfjkaidaaGreatDoor
