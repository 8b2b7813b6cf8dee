/- Any number modulo the order; whether any one is below it: the law's own walk. -/
import Derived.Test.YtklbcpaoccdmeaaDoorRfD
import Derived.Laws.BitsAllLaws
import Derived.Deep.CutRange
import Derived.Deep.CutBlock
import Derived.RegionTactic
import Derived.Lib.Hide
import Derived.IntWalk
namespace Go.Proofs.YtklbcpaoccdmeaaDoor
set_option maxRecDepth 100000
open Go.RowKit

set_option linter.unusedSimpArgs false
theorem by_len64 (N : Nat) : (Tryd.prog.info? 22).map (·.size) = some (By N 64).length := by rw [By_length]; kernel_rfl
set_option maxHeartbeats 3200000 in
theorem reduces_law (X Y : Nat) (hX : X < 256 ^ 64) (hY : Y < 256 ^ 32) (w : World) (hq : Qt w) :
    Calls Tryd.prog 3 #[.agg (By X 64).toArray, .agg (By Y 32).toArray] w fun e w' => e = .returned (.bool true) ∧ Below w.heap.size w w' := by
  have ha := (Row.new w (By X 64) 22).alloc (.cells (By Y 32).toArray 23)
  have hb := Row.new1 w (.cells (By X 64).toArray 22) (By Y 32) 23
  have hb0 := Below.alloc2 w (.cells (By X 64).toArray 22) (.cells (By Y 32).toArray 23)
  have hqw := hq.below hb0 hq.lt
  have hL8 : ∀ x, (Tryd.prog.info? 23).map (·.size) = some (By x 32).length := by_len
  have hL64 : ∀ x, (Tryd.prog.info? 22).map (·.size) = some (By x 64).length := by_len64
  have HA := Lib.hid ha
  have HB := Lib.hid hb
  have HB0 := Lib.hid hb0
  have HQW := Lib.hid hqw
  have HL8 := Lib.hid hL8
  have HL64 := Lib.hid hL64
  have HXL := Lib.hid hX
  have HYL := Lib.hid hY
  clear ha hb hb0 hqw hL8 hL64 hX hY hq
  go_enter Tryd.func3, Tryd.ntmps3
  go_upto_region 1 with fail
  generalize (w.alloc (.cells (By X 64).toArray 22)).alloc (.cells (By Y 32).toArray 23) = W at *
  refine wp_region_any (by kernel_rfl) ?_
  change wpAny _ _ _ _ _ _ _ (World.drew _)
  refine wpAny_of_held (S := (fun w' : World => Below W.heap.size W w')) _ _ _ _ ?_
  have hHeld := ((Below.refl W.heap.size W).drew)
  refine wpAnyH_take (i := 0) (v := .agg (By X 64).toArray) rfl (by kernel_rfl) (by kernel_rfl) (by kernel_rfl) (fun _ _ _ h => h) (yieldsIf_load_mid (by rfl) 22 (.tmp 2) rfl w.heap.size 0 rfl (By X 64) _ (fun w' hSw => (HA.out.belowAll hSw).range) (by rfl) rfl (HL64.out _)) hHeld ?_
  change wpAnyH _ _ _ _ _ _ _ (Act.put _ (some 5) _) _
  simp only [Act.put, List.setIfInBounds_toArray, List.set_cons_zero, List.set_cons_succ]
  refine wpAnyH_take (i := 2) (v := .agg (By X 64).toArray) rfl (by kernel_rfl) (by kernel_rfl) (by kernel_rfl) (fun _ _ _ h => h) (yieldsIf_load_mid (by rfl) 22 (.tmp 2) rfl w.heap.size 0 rfl (By X 64) _ (fun w' hSw => (HA.out.belowAll hSw).range) (by rfl) rfl (HL64.out _)) hHeld ?_
  change wpAnyH _ _ _ _ _ _ _ (Act.put _ (some 7) _) _
  simp only [Act.put, List.setIfInBounds_toArray, List.set_cons_zero, List.set_cons_succ]
  refine wpAnyH_ready (rs := [1]) (by kernel_rfl) (by simp) ?_
  refine AllReadyH.cons rfl (fun K hK => ?_) AllReadyH.nil
  rw [if_pos (by kernel_rfl)]
  go_simp
  refine (reduce_fn X HXL.out _ (HQW.out.below hHeld HQW.out.lt)).mono ?_
  rintro e w_c0 ⟨rfl, hbw_c0⟩
  refine hK.out _ _ (hHeld.trans (hbw_c0.mono hHeld.size)) (fun hHeld => ?_)
  clear hK K
  refine wpAnyH_ready (rs := [3]) (by kernel_rfl) (by simp) ?_
  refine AllReadyH.cons rfl (fun K hK => ?_) AllReadyH.nil
  rw [if_pos (by kernel_rfl)]
  go_simp
  refine (reduce_doc X HXL.out _).mono ?_
  rintro e w_c1 ⟨rfl, hbw_c1⟩
  refine hK.out _ _ (hHeld.trans (hbw_c1.mono hHeld.size)) (fun hHeld => ?_)
  clear hK K
  refine wpAnyH_take (i := 4) (v := .bool true) rfl (by kernel_rfl) (by kernel_rfl) (by kernel_rfl) (fun _ _ _ h => h) (yieldsIf_binop (by rfl) .eql 23 23 (.tmp 6) (.tmp 8) rfl (.agg (By (X % qq) 32).toArray) (.agg (By (X % qq) 32).toArray) (.bool true) rfl rfl (bgrd _ _ _ _ _) (beq_same rfl)) hHeld ?_
  change wpAnyH _ _ _ _ _ _ _ (Act.put _ (some 9) _) _
  simp only [Act.put, List.setIfInBounds_toArray, List.set_cons_zero, List.set_cons_succ]
  refine wpAnyH_take (i := 5) (v := ?_) rfl (by kernel_rfl) (by kernel_rfl) (by kernel_rfl) (fun _ _ _ h => h) (Or.inl ⟨by rfl, ?_⟩) hHeld ?_
  rotate_left
  · (intro w' hSw; go_simp; try (with_reducible rfl))
  change wpAnyH _ _ _ _ _ _ _ (Act.put _ (some 10) _) _
  simp only [Act.put, List.setIfInBounds_toArray, List.set_cons_zero, List.set_cons_succ]
  refine wpAnyH_take (i := 6) (v := .agg (By Y 32).toArray) rfl (by kernel_rfl) (by kernel_rfl) (by kernel_rfl) (fun _ _ _ h => h) (yieldsIf_load_mid (by rfl) 23 (.tmp 3) rfl (w.heap.size + 1) 0 rfl (By Y 32) _ (fun w' hSw => (HB.out.belowAll hSw).range) (by rfl) rfl (HL8.out _)) hHeld ?_
  change wpAnyH _ _ _ _ _ _ _ (Act.put _ (some 11) _) _
  simp only [Act.put, List.setIfInBounds_toArray, List.set_cons_zero, List.set_cons_succ]
  refine wpAnyH_take (i := 8) (v := .agg (By Y 32).toArray) rfl (by kernel_rfl) (by kernel_rfl) (by kernel_rfl) (fun _ _ _ h => h) (yieldsIf_load_mid (by rfl) 23 (.tmp 3) rfl (w.heap.size + 1) 0 rfl (By Y 32) _ (fun w' hSw => (HB.out.belowAll hSw).range) (by rfl) rfl (HL8.out _)) hHeld ?_
  change wpAnyH _ _ _ _ _ _ _ (Act.put _ (some 13) _) _
  simp only [Act.put, List.setIfInBounds_toArray, List.set_cons_zero, List.set_cons_succ]
  refine wpAnyH_ready (rs := [7]) (by kernel_rfl) (by simp) ?_
  refine AllReadyH.cons rfl (fun K hK => ?_) AllReadyH.nil
  rw [if_pos (by kernel_rfl)]
  go_simp
  refine (below_fn Y HYL.out _ (HQW.out.below hHeld HQW.out.lt)).mono ?_
  rintro e w_c2 ⟨rfl, hbw_c2⟩
  refine hK.out _ _ (hHeld.trans (hbw_c2.mono hHeld.size)) (fun hHeld => ?_)
  clear hK K
  refine wpAnyH_ready (rs := [9]) (by kernel_rfl) (by simp) ?_
  refine AllReadyH.cons rfl (fun K hK => ?_) AllReadyH.nil
  rw [if_pos (by kernel_rfl)]
  go_simp
  refine (below_doc Y HYL.out _).mono ?_
  rintro e w_c3 ⟨rfl, hbw_c3⟩
  refine hK.out _ _ (hHeld.trans (hbw_c3.mono hHeld.size)) (fun hHeld => ?_)
  clear hK K
  refine wpAnyH_take (i := 10) (v := ?_) rfl (by kernel_rfl) (by kernel_rfl) (by kernel_rfl) (fun _ _ _ h => h) (Or.inl ⟨by rfl, ?_⟩) hHeld ?_
  rotate_left
  · (intro w' hSw; go_simp; try (with_reducible rfl))
  change wpAnyH _ _ _ _ _ _ _ (Act.put _ (some 15) _) _
  simp only [Act.put, List.setIfInBounds_toArray, List.set_cons_zero, List.set_cons_succ]
  refine wpAnyH_take (i := 11) (v := ?_) rfl (by kernel_rfl) (by kernel_rfl) (by kernel_rfl) (fun _ _ _ h => h) (Or.inl ⟨by rfl, ?_⟩) hHeld ?_
  rotate_left
  · (intro w' hSw; go_simp; try (with_reducible rfl))
  change wpAnyH _ _ _ _ _ _ _ (Act.put _ (some 16) _) _
  simp only [Act.put, List.setIfInBounds_toArray, List.set_cons_zero, List.set_cons_succ]
  refine wpAnyH_take (i := 12) (v := ?_) rfl (by kernel_rfl) (by kernel_rfl) (by kernel_rfl) (fun _ _ _ h => h) (Or.inl ⟨by rfl, ?_⟩) hHeld ?_
  rotate_left
  · (intro w' hSw; go_simp; try (with_reducible rfl))
  change wpAnyH _ _ _ _ _ _ _ (Act.put _ (some 17) _) _
  simp only [Act.put, List.setIfInBounds_toArray, List.set_cons_zero, List.set_cons_succ]
  refine wpAnyH_ready (rs := [13]) (by kernel_rfl) (by simp) ?_
  refine AllReadyH.cons rfl (fun K hK => ?_) AllReadyH.nil
  rw [if_pos (by kernel_rfl)]
  go_simp
  refine (awake_any _ (HQW.out.below hHeld HQW.out.lt)).mono ?_
  rintro e w_c4 ⟨rfl, hbw_c4⟩
  refine hK.out _ _ (hHeld.trans (hbw_c4.mono hHeld.size)) (fun hHeld => ?_)
  clear hK K
  refine wpAnyH_take (i := 14) (v := ?_) rfl (by kernel_rfl) (by kernel_rfl) (by kernel_rfl) (fun _ _ _ h => h) (Or.inl ⟨by rfl, ?_⟩) hHeld ?_
  rotate_left
  · (intro w' hSw; go_simp; try (with_reducible rfl))
  change wpAnyH _ _ _ _ _ _ _ (Act.put _ (some 19) _) _
  simp only [Act.put, List.setIfInBounds_toArray, List.set_cons_zero, List.set_cons_succ]
  refine wpAnyH_take (i := 15) (v := ?_) rfl (by kernel_rfl) (by kernel_rfl) (by kernel_rfl) (fun _ _ _ h => h) (Or.inl ⟨by rfl, ?_⟩) hHeld ?_
  rotate_left
  · (intro w' hSw; go_simp; try (with_reducible rfl))
  change wpAnyH _ _ _ _ _ _ _ (Act.put _ (some 4) _) _
  simp only [Act.put, List.setIfInBounds_toArray, List.set_cons_zero, List.set_cons_succ]
  refine wpAnyH_done (by kernel_rfl) ?_ _
  have HF := Lib.hid hHeld
  clear hHeld
  go_wp2_with fail
  go_ret
  exact ⟨rfl, HB0.out.trans (HF.out.mono HB0.out.size)⟩
end Go.Proofs.YtklbcpaoccdmeaaDoor
