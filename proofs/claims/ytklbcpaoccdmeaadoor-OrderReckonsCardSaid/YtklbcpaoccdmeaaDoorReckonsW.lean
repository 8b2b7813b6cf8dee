/- Products and sums of any three numbers: the law's own walk. -/
import Derived.Test.YtklbcpaoccdmeaaDoorRfG
import Derived.Laws.BitsAllLaws
import Derived.Deep.CutRange
import Derived.Deep.CutBlock
import Derived.RegionTactic
import Derived.Lib.Hide
import Derived.IntWalk
namespace Go.Proofs.YtklbcpaoccdmeaaDoor
set_option maxRecDepth 100000
open Go.RowKit

set_option linter.unusedSimpArgs false
set_option maxHeartbeats 3200000 in
theorem reckons_law (X Y Z : Nat) (hX : X < 256 ^ 32) (hY : Y < 256 ^ 32) (hZ : Z < 256 ^ 32) (w : World) (hq : Qt w) :
    Calls Tryd.prog 4 #[.agg (By X 32).toArray, .agg (By Y 32).toArray, .agg (By Z 32).toArray] w fun e w' => e = .returned (.bool true) ∧ Below w.heap.size w w' := by
  have ha := ((Row.new w (By X 32) 23).alloc (.cells (By Y 32).toArray 23)).alloc (.cells (By Z 32).toArray 23)
  have hb := (Row.new1 w (.cells (By X 32).toArray 23) (By Y 32) 23).alloc (.cells (By Z 32).toArray 23)
  have hc := Row.new2 w (.cells (By X 32).toArray 23) (.cells (By Y 32).toArray 23) (By Z 32) 23
  have hb0 := Below.alloc3 w (.cells (By X 32).toArray 23) (.cells (By Y 32).toArray 23) (.cells (By Z 32).toArray 23)
  have hqw := hq.below hb0 hq.lt
  have hL8 : ∀ x, (Tryd.prog.info? 23).map (·.size) = some (By x 32).length := by_len
  have HA := Lib.hid ha
  have HB := Lib.hid hb
  have HC := Lib.hid hc
  have HB0 := Lib.hid hb0
  have HQW := Lib.hid hqw
  have HL8 := Lib.hid hL8
  have HXL := Lib.hid hX
  have HYL := Lib.hid hY
  have HZL := Lib.hid hZ
  clear ha hb hc hb0 hqw hL8 hX hY hZ hq
  go_enter Tryd.func4, Tryd.ntmps4
  go_upto_region 1 with fail
  generalize ((w.alloc (.cells (By X 32).toArray 23)).alloc (.cells (By Y 32).toArray 23)).alloc (.cells (By Z 32).toArray 23) = W at *
  refine wp_region_any (by kernel_rfl) ?_
  change wpAny _ _ _ _ _ _ _ (World.drew _)
  refine wpAny_of_held (S := (fun w' : World => Below W.heap.size W w')) _ _ _ _ ?_
  have hHeld := ((Below.refl W.heap.size W).drew)
  refine wpAnyH_take (i := 0) (v := .agg (By X 32).toArray) rfl (by kernel_rfl) (by kernel_rfl) (by kernel_rfl) (fun _ _ _ h => h) (yieldsIf_load_mid (by rfl) 23 (.tmp 3) rfl w.heap.size 0 rfl (By X 32) _ (fun w' hSw => (HA.out.belowAll hSw).range) (by rfl) rfl (HL8.out _)) hHeld ?_
  change wpAnyH _ _ _ _ _ _ _ (Act.put _ (some 7) _) _
  simp only [Act.put, List.setIfInBounds_toArray, List.set_cons_zero, List.set_cons_succ]
  refine wpAnyH_take (i := 1) (v := .agg (By Y 32).toArray) rfl (by kernel_rfl) (by kernel_rfl) (by kernel_rfl) (fun _ _ _ h => h) (yieldsIf_load_mid (by rfl) 23 (.tmp 4) rfl (w.heap.size + 1) 0 rfl (By Y 32) _ (fun w' hSw => (HB.out.belowAll hSw).range) (by rfl) rfl (HL8.out _)) hHeld ?_
  change wpAnyH _ _ _ _ _ _ _ (Act.put _ (some 8) _) _
  simp only [Act.put, List.setIfInBounds_toArray, List.set_cons_zero, List.set_cons_succ]
  refine wpAnyH_take (i := 2) (v := .agg (By Z 32).toArray) rfl (by kernel_rfl) (by kernel_rfl) (by kernel_rfl) (fun _ _ _ h => h) (yieldsIf_load_mid (by rfl) 23 (.tmp 5) rfl (w.heap.size + 1 + 1) 0 rfl (By Z 32) _ (fun w' hSw => (HC.out.belowAll hSw).range) (by rfl) rfl (HL8.out _)) hHeld ?_
  change wpAnyH _ _ _ _ _ _ _ (Act.put _ (some 9) _) _
  simp only [Act.put, List.setIfInBounds_toArray, List.set_cons_zero, List.set_cons_succ]
  refine wpAnyH_take (i := 4) (v := .agg (By X 32).toArray) rfl (by kernel_rfl) (by kernel_rfl) (by kernel_rfl) (fun _ _ _ h => h) (yieldsIf_load_mid (by rfl) 23 (.tmp 3) rfl w.heap.size 0 rfl (By X 32) _ (fun w' hSw => (HA.out.belowAll hSw).range) (by rfl) rfl (HL8.out _)) hHeld ?_
  change wpAnyH _ _ _ _ _ _ _ (Act.put _ (some 11) _) _
  simp only [Act.put, List.setIfInBounds_toArray, List.set_cons_zero, List.set_cons_succ]
  refine wpAnyH_take (i := 5) (v := .agg (By Y 32).toArray) rfl (by kernel_rfl) (by kernel_rfl) (by kernel_rfl) (fun _ _ _ h => h) (yieldsIf_load_mid (by rfl) 23 (.tmp 4) rfl (w.heap.size + 1) 0 rfl (By Y 32) _ (fun w' hSw => (HB.out.belowAll hSw).range) (by rfl) rfl (HL8.out _)) hHeld ?_
  change wpAnyH _ _ _ _ _ _ _ (Act.put _ (some 12) _) _
  simp only [Act.put, List.setIfInBounds_toArray, List.set_cons_zero, List.set_cons_succ]
  refine wpAnyH_take (i := 6) (v := .agg (By Z 32).toArray) rfl (by kernel_rfl) (by kernel_rfl) (by kernel_rfl) (fun _ _ _ h => h) (yieldsIf_load_mid (by rfl) 23 (.tmp 5) rfl (w.heap.size + 1 + 1) 0 rfl (By Z 32) _ (fun w' hSw => (HC.out.belowAll hSw).range) (by rfl) rfl (HL8.out _)) hHeld ?_
  change wpAnyH _ _ _ _ _ _ _ (Act.put _ (some 13) _) _
  simp only [Act.put, List.setIfInBounds_toArray, List.set_cons_zero, List.set_cons_succ]
  refine wpAnyH_ready (rs := [3]) (by kernel_rfl) (by simp) ?_
  refine AllReadyH.cons rfl (fun K hK => ?_) AllReadyH.nil
  rw [if_pos (by kernel_rfl)]
  go_simp
  refine (muladd_q X Y Z HXL.out HYL.out HZL.out _ (HQW.out.below hHeld HQW.out.lt)).mono ?_
  rintro e w_c0 ⟨rfl, hbw_c0⟩
  refine hK.out _ _ (hHeld.trans (hbw_c0.mono hHeld.size)) (fun hHeld => ?_)
  clear hK K
  refine wpAnyH_ready (rs := [7]) (by kernel_rfl) (by simp) ?_
  refine AllReadyH.cons rfl (fun K hK => ?_) AllReadyH.nil
  rw [if_pos (by kernel_rfl)]
  go_simp
  refine (muladd_doc X Y Z HXL.out HYL.out HZL.out _).mono ?_
  rintro e w_c1 ⟨rfl, hbw_c1⟩
  refine hK.out _ _ (hHeld.trans (hbw_c1.mono hHeld.size)) (fun hHeld => ?_)
  clear hK K
  refine wpAnyH_take (i := 8) (v := .bool true) rfl (by kernel_rfl) (by kernel_rfl) (by kernel_rfl) (fun _ _ _ h => h) (yieldsIf_binop (by rfl) .eql 23 23 (.tmp 10) (.tmp 14) rfl (.agg (By (mulq X Y Z) 32).toArray) (.agg (By (mulq X Y Z) 32).toArray) (.bool true) rfl rfl (bgrd _ _ _ _ _) (beq_same rfl)) hHeld ?_
  change wpAnyH _ _ _ _ _ _ _ (Act.put _ (some 15) _) _
  simp only [Act.put, List.setIfInBounds_toArray, List.set_cons_zero, List.set_cons_succ]
  refine wpAnyH_take (i := 9) (v := ?_) rfl (by kernel_rfl) (by kernel_rfl) (by kernel_rfl) (fun _ _ _ h => h) (Or.inl ⟨by rfl, ?_⟩) hHeld ?_
  rotate_left
  · (intro w' hSw; go_simp; try (with_reducible rfl))
  change wpAnyH _ _ _ _ _ _ _ (Act.put _ (some 16) _) _
  simp only [Act.put, List.setIfInBounds_toArray, List.set_cons_zero, List.set_cons_succ]
  refine wpAnyH_ready (rs := [10]) (by kernel_rfl) (by simp) ?_
  refine AllReadyH.cons rfl (fun K hK => ?_) AllReadyH.nil
  rw [if_pos (by kernel_rfl)]
  go_simp
  refine (awake_any _ (HQW.out.below hHeld HQW.out.lt)).mono ?_
  rintro e w_c2 ⟨rfl, hbw_c2⟩
  refine hK.out _ _ (hHeld.trans (hbw_c2.mono hHeld.size)) (fun hHeld => ?_)
  clear hK K
  refine wpAnyH_take (i := 11) (v := ?_) rfl (by kernel_rfl) (by kernel_rfl) (by kernel_rfl) (fun _ _ _ h => h) (Or.inl ⟨by rfl, ?_⟩) hHeld ?_
  rotate_left
  · (intro w' hSw; go_simp; try (with_reducible rfl))
  change wpAnyH _ _ _ _ _ _ _ (Act.put _ (some 18) _) _
  simp only [Act.put, List.setIfInBounds_toArray, List.set_cons_zero, List.set_cons_succ]
  refine wpAnyH_take (i := 12) (v := ?_) rfl (by kernel_rfl) (by kernel_rfl) (by kernel_rfl) (fun _ _ _ h => h) (Or.inl ⟨by rfl, ?_⟩) hHeld ?_
  rotate_left
  · (intro w' hSw; go_simp; try (with_reducible rfl))
  change wpAnyH _ _ _ _ _ _ _ (Act.put _ (some 6) _) _
  simp only [Act.put, List.setIfInBounds_toArray, List.set_cons_zero, List.set_cons_succ]
  refine wpAnyH_done (by kernel_rfl) ?_ _
  have HF := Lib.hid hHeld
  clear hHeld
  go_wp2_with fail
  go_ret
  exact ⟨rfl, HB0.out.trans (HF.out.mono HB0.out.size)⟩
end Go.Proofs.YtklbcpaoccdmeaaDoor
