/- order's functions: Neg, Reduce. -/
import Derived.Test.YtklbcpaoccdmeaaDoorMulAdd
import Derived.Laws.BitsAllLaws
import Derived.Deep.CutRange
import Derived.Deep.CutBlock
import Derived.RegionTactic
import Derived.Lib.Hide
import Derived.IntWalk
namespace Go.Proofs.YtklbcpaoccdmeaaDoor
set_option maxRecDepth 100000
open Go.RowKit

set_option linter.unusedSimpArgs false
set_option maxHeartbeats 3200000 in
theorem neg_fn (A : Nat) (hA : A < 256 ^ 32) (w : World) (hq : Qt w) :
    Calls Tryd.prog 15 #[.agg (By A 32).toArray] w fun e w' => e = .returned (.agg (By ((qq - A % qq) % qq) 32).toArray) ∧ Below w.heap.size w w' := by
  have ha := (Row.new w (By A 32) 23).alloc (.cells (List.replicate 32 (Value.int .u8 0)).toArray 23)
  have hr := Row.new1 w (.cells (By A 32).toArray 23) (List.replicate 32 (Value.int .u8 0)) 23
  have hb0 := Below.alloc2 w (.cells (By A 32).toArray 23) (.cells (List.replicate 32 (Value.int .u8 0)).toArray 23)
  have hqw := hq.below hb0 hq.lt
  have hsz : ((w.alloc (.cells (By A 32).toArray 23)).alloc (.cells (List.replicate 32 (Value.int .u8 0)).toArray 23)).heap.size = w.heap.size + 1 + 1 := by simp
  have hA4 : A < M64 4 := by rw [← p32]; exact hA
  have hA8 : A < M64 8 := Nat.lt_of_lt_of_le hA4 (M64_mono (by omega))
  have hAq : A % qq < qq := Nat.mod_lt _ qq_pos
  have hmin := fun w => minus_any qq (A % qq) (qq - A % qq + M64 8) (by omega) w
  rw [Nm_over] at hmin
  have hD8 : qq - A % qq < M64 8 := by have := qq_8; have := small8 hAq; have h := Nat.lt_of_lt_of_le qq_lt (M64_mono (show 4 ≤ 8 by omega)); omega
  have hO6 : ∀ x, ([Value.int .u64 0, .int .u64 0, .int .u64 0, .int .u64 0, .int .u64 0, .int .u64 0, .int .u64 0, .int .u64 0]).toArray.size = (Nm x).toArray.size := fun _ => rfl
  have hS : ∀ x, (Tryd.prog.info? 36).map (·.size) = some (Nm x).toArray.size := nm_info
  have hL : ∀ x, (Tryd.prog.info? 36).map (·.size) = some (Nm x).length := nm_len
  have hS8 : ∀ x, (Tryd.prog.info? 23).map (·.size) = some (By x 32).toArray.size := by_info
  have hO8 : ∀ x, (List.replicate 32 (Value.int .u8 0)).toArray.size = (By x 32).toArray.size := fun x => by rw [List.size_toArray, List.size_toArray, By_length, List.length_replicate]
  have HO6 := Lib.hid hO6
  have HS4 := Lib.hid hS
  have HL4 := Lib.hid hL
  have HS8 := Lib.hid hS8
  have HO8 := Lib.hid hO8
  clear hO6 hS hL hS8 hO8
  have HA := Lib.hid ha
  have HR := Lib.hid hr
  have HB0 := Lib.hid hb0
  obtain ⟨tq, hq0⟩ := hqw.row
  have HQ0 := Lib.hid hq0
  have HQW := Lib.hid hqw
  have HSZ := Lib.hid hsz
  have HA8 := Lib.hid hA8
  have HMIN := Lib.hid hmin
  have HD8 := Lib.hid hD8
  have HA0 := Lib.hid hA
  clear ha hr hb0 hq hqw hq0 hsz hA4 hA8 hAq hmin hD8 hA
  generalize qq - A % qq = D at *
  go_enter Tryd.func15, Tryd.ntmps15
  go_upto_region 1 with fail
  change Code.wp _ _ _ _ ((w.alloc (.cells (By A 32).toArray 23)).alloc (.cells (List.replicate 32 (Value.int .u8 0)).toArray 23))
  generalize (w.alloc (.cells (By A 32).toArray 23)).alloc (.cells (List.replicate 32 (Value.int .u8 0)).toArray 23) = W at *
  go_cut [3] from 4 to 12 (fun v wx => ∃ g : Nat, v = .pointer (some ⟨g, 0, none⟩) ∧ Row wx g 36 (Nm D) ∧ Below W.heap.size W wx)
  case first =>
    refine wp_region_any (by kernel_rfl) ?_
    change wpAny _ _ _ _ _ _ _ (World.drew _)
    refine wpAny_of_held (S := (fun w' : World => Below W.heap.size W w')) _ _ _ _ ?_
    have hHeld := ((Below.refl W.heap.size W).drew)
    refine wpAnyH_take (i := 0) (v := .agg (Nm qq).toArray) rfl (by kernel_rfl) (by kernel_rfl) (by kernel_rfl) (fun _ _ _ h => h) (yieldsIf_load_mid (by rfl) 36 (.global 0) rfl 0 0 rfl (Nm qq) _ (fun w' hSw => (HQ0.out.belowAll hSw).range) (by rfl) rfl (HL4.out _)) hHeld ?_
    change wpAnyH _ _ _ _ _ _ _ (Act.put _ (some 6) _) _
    simp only [Act.put, List.setIfInBounds_toArray, List.set_cons_zero, List.set_cons_succ]
    refine wpAnyH_take (i := 1) (v := ?_) rfl (by kernel_rfl) (by kernel_rfl) (by kernel_rfl) (fun _ _ _ h => h) (Or.inl ⟨by rfl, ?_⟩) hHeld ?_
    rotate_left
    · (intro w' hSw; go_simp; try (with_reducible rfl))
    change wpAnyH _ _ _ _ _ _ _ (Act.put _ (some 7) _) _
    simp only [Act.put, List.setIfInBounds_toArray, List.set_cons_zero, List.set_cons_succ]
    refine wpAnyH_ready (rs := [2, 8]) (by kernel_rfl) (by simp) ?_
    refine AllReadyH.cons rfl (fun K hK => ?_) (AllReadyH.cons rfl (fun K hK => ?_) AllReadyH.nil)
    · rw [if_pos (by kernel_rfl)]
      go_simp
      refine (read_by A 32 w.heap.size _ _ (by decide) HA0.out (HA.out.belowAll hHeld)).mono ?_
      rintro e w_2_c0 ⟨rfl, hbw_2_c0⟩
      refine hK.out _ _ (hHeld.trans (hbw_2_c0.mono hHeld.size)) (fun hHeld => ?_)
      clear hK K
      refine wpAnyH_ready (rs := [3, 8]) (by kernel_rfl) (by simp) ?_
      refine AllReadyH.cons rfl (fun K hK => ?_) (AllReadyH.cons rfl (fun K hK => ?_) AllReadyH.nil)
      · rw [if_pos (by kernel_rfl)]
        go_simp
        refine (rest_any A HA8.out _ (HQW.out.below hHeld HQW.out.lt)).mono ?_
        rintro e w_2_3_c1 ⟨rfl, hbw_2_3_c1⟩
        refine hK.out _ _ (hHeld.trans (hbw_2_3_c1.mono hHeld.size)) (fun hHeld => ?_)
        clear hK K
        refine wpAnyH_ready (rs := [4, 8]) (by kernel_rfl) (by simp) ?_
        refine AllReadyH.cons rfl (fun K hK => ?_) (AllReadyH.cons rfl (fun K hK => ?_) AllReadyH.nil)
        · rw [if_pos (by kernel_rfl)]
          go_simp
          refine (HMIN.out _).mono ?_
          rintro e w_2_3_4_c2 ⟨rfl, hbw_2_3_4_c2⟩
          refine hK.out _ _ (hHeld.trans (hbw_2_3_4_c2.mono hHeld.size)) (fun hHeld => ?_)
          clear hK K
          refine wpAnyH_take (i := 5) (v := ?_) rfl (by kernel_rfl) (by kernel_rfl) (by kernel_rfl) (fun _ _ _ h => h) (Or.inl ⟨by rfl, ?_⟩) hHeld ?_
          rotate_left
          · (intro w' hSw; go_simp; try (with_reducible rfl))
          change wpAnyH _ _ _ _ _ _ _ (Act.put _ (some 5) _) _
          simp only [Act.put, List.setIfInBounds_toArray, List.set_cons_zero, List.set_cons_succ]
          refine wpAnyH_take (i := 6) (v := ?_) rfl (by kernel_rfl) (by kernel_rfl) (by kernel_rfl) (fun _ _ _ h => h) (Or.inl ⟨by rfl, ?_⟩) hHeld ?_
          rotate_left
          · (intro w' hSw; go_simp; try (with_reducible rfl))
          change wpAnyH _ _ _ _ _ _ _ (Act.put _ (some 11) _) _
          simp only [Act.put, List.setIfInBounds_toArray, List.set_cons_zero, List.set_cons_succ]
          refine wpAnyH_take (i := 7) (v := ?_) rfl (by kernel_rfl) (by kernel_rfl) (by kernel_rfl) (fun _ _ _ h => h) (Or.inl ⟨by rfl, ?_⟩) hHeld ?_
          rotate_left
          · (intro w' hSw; go_simp; try (with_reducible rfl))
          change wpAnyH _ _ _ _ _ _ _ (Act.put _ (some 12) _) _
          simp only [Act.put, List.setIfInBounds_toArray, List.set_cons_zero, List.set_cons_succ]
          refine wpAnyH_ready (rs := [8]) (by kernel_rfl) (by simp) ?_
          refine AllReadyH.cons rfl (fun K hK => ?_) AllReadyH.nil
          rw [if_pos (by kernel_rfl)]
          go_simp
          have hl3a := Row.new w_2_3_4_c2 (Nm 0) 36
          rw [Nm_zero] at hl3a
          have hgs := hHeld.size
          refine hK.out _ _ (hHeld.alloc hHeld.size _) (fun hHeld => ?_)
          clear hK K
          refine wpAnyH_ready (rs := [9]) (by kernel_rfl) (by simp) ?_
          refine AllReadyH.cons rfl (fun K hK => ?_) AllReadyH.nil
          rw [if_pos (by kernel_rfl)]
          refine wp_store_row 36 (.tmp 3) (.tmp 11) rfl (w_2_3_4_c2.heap.size) (Nm D).toArray rfl rfl 36 _ hl3a (HS4.out _) (HO6.out _) (Nm_one _) ?_
          have hs4 := hl3a.setRow (Nm D)
          refine hK.out _ _ (below_setRow hHeld (hgs) _) (fun hHeld => ?_)
          clear hK K
          refine wpAnyH_take (i := 10) (v := ?_) rfl (by kernel_rfl) (by kernel_rfl) (by kernel_rfl) (fun _ _ _ h => h) (Or.inl ⟨by rfl, ?_⟩) hHeld ?_
          rotate_left
          · (intro w' hSw; go_simp; try (with_reducible rfl))
          change wpAnyH _ _ _ _ _ _ _ (Act.put _ (some 4) _) _
          simp only [Act.put, List.setIfInBounds_toArray, List.set_cons_zero, List.set_cons_succ]
          refine wpAnyH_done (by kernel_rfl) ?_ _
          go_step
          go_step
          go_meet
          exact ⟨_, rfl, hs4, hHeld⟩
        · rw [if_pos (by kernel_rfl)]
          go_simp
          have hl2a := Row.new w_2_3_c1 (Nm 0) 36
          rw [Nm_zero] at hl2a
          have hgs := hHeld.size
          refine hK.out _ _ (hHeld.alloc hHeld.size _) (fun hHeld => ?_)
          clear hK K
          refine wpAnyH_ready (rs := [4]) (by kernel_rfl) (by simp) ?_
          refine AllReadyH.cons rfl (fun K hK => ?_) AllReadyH.nil
          rw [if_pos (by kernel_rfl)]
          go_simp
          refine (HMIN.out _).mono ?_
          rintro e w_2_3_8_c3 ⟨rfl, hbw_2_3_8_c3⟩
          have hlw_2_3_8_c3 := hl2a.belowAll hbw_2_3_8_c3
          refine hK.out _ _ (hHeld.trans (hbw_2_3_8_c3.mono hHeld.size)) (fun hHeld => ?_)
          clear hK K
          refine wpAnyH_take (i := 5) (v := ?_) rfl (by kernel_rfl) (by kernel_rfl) (by kernel_rfl) (fun _ _ _ h => h) (Or.inl ⟨by rfl, ?_⟩) hHeld ?_
          rotate_left
          · (intro w' hSw; go_simp; try (with_reducible rfl))
          change wpAnyH _ _ _ _ _ _ _ (Act.put _ (some 5) _) _
          simp only [Act.put, List.setIfInBounds_toArray, List.set_cons_zero, List.set_cons_succ]
          refine wpAnyH_take (i := 6) (v := ?_) rfl (by kernel_rfl) (by kernel_rfl) (by kernel_rfl) (fun _ _ _ h => h) (Or.inl ⟨by rfl, ?_⟩) hHeld ?_
          rotate_left
          · (intro w' hSw; go_simp; try (with_reducible rfl))
          change wpAnyH _ _ _ _ _ _ _ (Act.put _ (some 11) _) _
          simp only [Act.put, List.setIfInBounds_toArray, List.set_cons_zero, List.set_cons_succ]
          refine wpAnyH_take (i := 7) (v := ?_) rfl (by kernel_rfl) (by kernel_rfl) (by kernel_rfl) (fun _ _ _ h => h) (Or.inl ⟨by rfl, ?_⟩) hHeld ?_
          rotate_left
          · (intro w' hSw; go_simp; try (with_reducible rfl))
          change wpAnyH _ _ _ _ _ _ _ (Act.put _ (some 12) _) _
          simp only [Act.put, List.setIfInBounds_toArray, List.set_cons_zero, List.set_cons_succ]
          refine wpAnyH_ready (rs := [9]) (by kernel_rfl) (by simp) ?_
          refine AllReadyH.cons rfl (fun K hK => ?_) AllReadyH.nil
          rw [if_pos (by kernel_rfl)]
          refine wp_store_row 36 (.tmp 3) (.tmp 11) rfl (w_2_3_c1.heap.size) (Nm D).toArray rfl rfl 36 _ hlw_2_3_8_c3 (HS4.out _) (HO6.out _) (Nm_one _) ?_
          have hs4 := hlw_2_3_8_c3.setRow (Nm D)
          refine hK.out _ _ (below_setRow hHeld (hgs) _) (fun hHeld => ?_)
          clear hK K
          refine wpAnyH_take (i := 10) (v := ?_) rfl (by kernel_rfl) (by kernel_rfl) (by kernel_rfl) (fun _ _ _ h => h) (Or.inl ⟨by rfl, ?_⟩) hHeld ?_
          rotate_left
          · (intro w' hSw; go_simp; try (with_reducible rfl))
          change wpAnyH _ _ _ _ _ _ _ (Act.put _ (some 4) _) _
          simp only [Act.put, List.setIfInBounds_toArray, List.set_cons_zero, List.set_cons_succ]
          refine wpAnyH_done (by kernel_rfl) ?_ _
          go_step
          go_step
          go_meet
          exact ⟨_, rfl, hs4, hHeld⟩
      · rw [if_pos (by kernel_rfl)]
        go_simp
        have hl1a := Row.new w_2_c0 (Nm 0) 36
        rw [Nm_zero] at hl1a
        have hgs := hHeld.size
        refine hK.out _ _ (hHeld.alloc hHeld.size _) (fun hHeld => ?_)
        clear hK K
        refine wpAnyH_ready (rs := [3]) (by kernel_rfl) (by simp) ?_
        refine AllReadyH.cons rfl (fun K hK => ?_) AllReadyH.nil
        rw [if_pos (by kernel_rfl)]
        go_simp
        refine (rest_any A HA8.out _ (HQW.out.below hHeld HQW.out.lt)).mono ?_
        rintro e w_2_8_c2 ⟨rfl, hbw_2_8_c2⟩
        have hlw_2_8_c2 := hl1a.belowAll hbw_2_8_c2
        refine hK.out _ _ (hHeld.trans (hbw_2_8_c2.mono hHeld.size)) (fun hHeld => ?_)
        clear hK K
        refine wpAnyH_ready (rs := [4]) (by kernel_rfl) (by simp) ?_
        refine AllReadyH.cons rfl (fun K hK => ?_) AllReadyH.nil
        rw [if_pos (by kernel_rfl)]
        go_simp
        refine (HMIN.out _).mono ?_
        rintro e w_2_8_c3 ⟨rfl, hbw_2_8_c3⟩
        have hlw_2_8_c3 := hlw_2_8_c2.belowAll hbw_2_8_c3
        refine hK.out _ _ (hHeld.trans (hbw_2_8_c3.mono hHeld.size)) (fun hHeld => ?_)
        clear hK K
        refine wpAnyH_take (i := 5) (v := ?_) rfl (by kernel_rfl) (by kernel_rfl) (by kernel_rfl) (fun _ _ _ h => h) (Or.inl ⟨by rfl, ?_⟩) hHeld ?_
        rotate_left
        · (intro w' hSw; go_simp; try (with_reducible rfl))
        change wpAnyH _ _ _ _ _ _ _ (Act.put _ (some 5) _) _
        simp only [Act.put, List.setIfInBounds_toArray, List.set_cons_zero, List.set_cons_succ]
        refine wpAnyH_take (i := 6) (v := ?_) rfl (by kernel_rfl) (by kernel_rfl) (by kernel_rfl) (fun _ _ _ h => h) (Or.inl ⟨by rfl, ?_⟩) hHeld ?_
        rotate_left
        · (intro w' hSw; go_simp; try (with_reducible rfl))
        change wpAnyH _ _ _ _ _ _ _ (Act.put _ (some 11) _) _
        simp only [Act.put, List.setIfInBounds_toArray, List.set_cons_zero, List.set_cons_succ]
        refine wpAnyH_take (i := 7) (v := ?_) rfl (by kernel_rfl) (by kernel_rfl) (by kernel_rfl) (fun _ _ _ h => h) (Or.inl ⟨by rfl, ?_⟩) hHeld ?_
        rotate_left
        · (intro w' hSw; go_simp; try (with_reducible rfl))
        change wpAnyH _ _ _ _ _ _ _ (Act.put _ (some 12) _) _
        simp only [Act.put, List.setIfInBounds_toArray, List.set_cons_zero, List.set_cons_succ]
        refine wpAnyH_ready (rs := [9]) (by kernel_rfl) (by simp) ?_
        refine AllReadyH.cons rfl (fun K hK => ?_) AllReadyH.nil
        rw [if_pos (by kernel_rfl)]
        refine wp_store_row 36 (.tmp 3) (.tmp 11) rfl (w_2_c0.heap.size) (Nm D).toArray rfl rfl 36 _ hlw_2_8_c3 (HS4.out _) (HO6.out _) (Nm_one _) ?_
        have hs4 := hlw_2_8_c3.setRow (Nm D)
        refine hK.out _ _ (below_setRow hHeld (hgs) _) (fun hHeld => ?_)
        clear hK K
        refine wpAnyH_take (i := 10) (v := ?_) rfl (by kernel_rfl) (by kernel_rfl) (by kernel_rfl) (fun _ _ _ h => h) (Or.inl ⟨by rfl, ?_⟩) hHeld ?_
        rotate_left
        · (intro w' hSw; go_simp; try (with_reducible rfl))
        change wpAnyH _ _ _ _ _ _ _ (Act.put _ (some 4) _) _
        simp only [Act.put, List.setIfInBounds_toArray, List.set_cons_zero, List.set_cons_succ]
        refine wpAnyH_done (by kernel_rfl) ?_ _
        go_step
        go_step
        go_meet
        exact ⟨_, rfl, hs4, hHeld⟩
    · rw [if_pos (by kernel_rfl)]
      go_simp
      have hl0a := Row.new W.drew (Nm 0) 36
      rw [Nm_zero] at hl0a
      have hgs := hHeld.size
      refine hK.out _ _ (hHeld.alloc hHeld.size _) (fun hHeld => ?_)
      clear hK K
      refine wpAnyH_ready (rs := [2]) (by kernel_rfl) (by simp) ?_
      refine AllReadyH.cons rfl (fun K hK => ?_) AllReadyH.nil
      rw [if_pos (by kernel_rfl)]
      go_simp
      refine (read_by A 32 w.heap.size _ _ (by decide) HA0.out (HA.out.belowAll hHeld)).mono ?_
      rintro e w_8_c1 ⟨rfl, hbw_8_c1⟩
      have hlw_8_c1 := hl0a.belowAll hbw_8_c1
      refine hK.out _ _ (hHeld.trans (hbw_8_c1.mono hHeld.size)) (fun hHeld => ?_)
      clear hK K
      refine wpAnyH_ready (rs := [3]) (by kernel_rfl) (by simp) ?_
      refine AllReadyH.cons rfl (fun K hK => ?_) AllReadyH.nil
      rw [if_pos (by kernel_rfl)]
      go_simp
      refine (rest_any A HA8.out _ (HQW.out.below hHeld HQW.out.lt)).mono ?_
      rintro e w_8_c2 ⟨rfl, hbw_8_c2⟩
      have hlw_8_c2 := hlw_8_c1.belowAll hbw_8_c2
      refine hK.out _ _ (hHeld.trans (hbw_8_c2.mono hHeld.size)) (fun hHeld => ?_)
      clear hK K
      refine wpAnyH_ready (rs := [4]) (by kernel_rfl) (by simp) ?_
      refine AllReadyH.cons rfl (fun K hK => ?_) AllReadyH.nil
      rw [if_pos (by kernel_rfl)]
      go_simp
      refine (HMIN.out _).mono ?_
      rintro e w_8_c3 ⟨rfl, hbw_8_c3⟩
      have hlw_8_c3 := hlw_8_c2.belowAll hbw_8_c3
      refine hK.out _ _ (hHeld.trans (hbw_8_c3.mono hHeld.size)) (fun hHeld => ?_)
      clear hK K
      refine wpAnyH_take (i := 5) (v := ?_) rfl (by kernel_rfl) (by kernel_rfl) (by kernel_rfl) (fun _ _ _ h => h) (Or.inl ⟨by rfl, ?_⟩) hHeld ?_
      rotate_left
      · (intro w' hSw; go_simp; try (with_reducible rfl))
      change wpAnyH _ _ _ _ _ _ _ (Act.put _ (some 5) _) _
      simp only [Act.put, List.setIfInBounds_toArray, List.set_cons_zero, List.set_cons_succ]
      refine wpAnyH_take (i := 6) (v := ?_) rfl (by kernel_rfl) (by kernel_rfl) (by kernel_rfl) (fun _ _ _ h => h) (Or.inl ⟨by rfl, ?_⟩) hHeld ?_
      rotate_left
      · (intro w' hSw; go_simp; try (with_reducible rfl))
      change wpAnyH _ _ _ _ _ _ _ (Act.put _ (some 11) _) _
      simp only [Act.put, List.setIfInBounds_toArray, List.set_cons_zero, List.set_cons_succ]
      refine wpAnyH_take (i := 7) (v := ?_) rfl (by kernel_rfl) (by kernel_rfl) (by kernel_rfl) (fun _ _ _ h => h) (Or.inl ⟨by rfl, ?_⟩) hHeld ?_
      rotate_left
      · (intro w' hSw; go_simp; try (with_reducible rfl))
      change wpAnyH _ _ _ _ _ _ _ (Act.put _ (some 12) _) _
      simp only [Act.put, List.setIfInBounds_toArray, List.set_cons_zero, List.set_cons_succ]
      refine wpAnyH_ready (rs := [9]) (by kernel_rfl) (by simp) ?_
      refine AllReadyH.cons rfl (fun K hK => ?_) AllReadyH.nil
      rw [if_pos (by kernel_rfl)]
      refine wp_store_row 36 (.tmp 3) (.tmp 11) rfl (W.drew.heap.size) (Nm D).toArray rfl rfl 36 _ hlw_8_c3 (HS4.out _) (HO6.out _) (Nm_one _) ?_
      have hs4 := hlw_8_c3.setRow (Nm D)
      refine hK.out _ _ (below_setRow hHeld (hgs) _) (fun hHeld => ?_)
      clear hK K
      refine wpAnyH_take (i := 10) (v := ?_) rfl (by kernel_rfl) (by kernel_rfl) (by kernel_rfl) (fun _ _ _ h => h) (Or.inl ⟨by rfl, ?_⟩) hHeld ?_
      rotate_left
      · (intro w' hSw; go_simp; try (with_reducible rfl))
      change wpAnyH _ _ _ _ _ _ _ (Act.put _ (some 4) _) _
      simp only [Act.put, List.setIfInBounds_toArray, List.set_cons_zero, List.set_cons_succ]
      refine wpAnyH_done (by kernel_rfl) ?_ _
      go_step
      go_step
      go_meet
      exact ⟨_, rfl, hs4, hHeld⟩
  case rest =>
    obtain ⟨g, rfl, hl, hbe⟩ := hcut
    have hr2 := HR.out.belowAll hbe
    have hq2 := HQW.out.below hbe HQW.out.lt
    have HL := Lib.hid hl
    have HBE := Lib.hid hbe
    have HR2 := Lib.hid hr2
    have HQ2 := Lib.hid hq2
    clear hl hbe hr2 hq2
    go_wp2_with (refine wpList_load_row rfl 36 (.tmp 3) rfl g rfl 36 _ (0, 0) _ HL.out Tryd.underlying36 rfl (HS4.out _) ?_)
    refine (rest_any D HD8.out _ HQ2.out).mono ?_
    rintro e w5 ⟨rfl, hb5⟩
    have hr5 := HR2.out.belowAll hb5
    have hbe5 := HBE.out.trans (hb5.mono HBE.out.size)
    have HR5 := Lib.hid hr5
    have HBE5 := Lib.hid hbe5
    clear hb5 hr5 hbe5
    go_wp2_with fail
    refine (bytes_any (D % qq) _).mono ?_
    rintro e w6 ⟨rfl, hb6⟩
    have hr6 := HR5.out.belowAll hb6
    have hbe6 := HBE5.out.trans (hb6.mono HBE5.out.size)
    have HR6 := Lib.hid hr6
    have HBE6 := Lib.hid hbe6
    clear hb6 hr6 hbe6
    go_wp2_with (refine wpList_store_row rfl 23 (.tmp 2) (.tmp 15) rfl (w.heap.size + 1) _ rfl rfl 23 _ HR6.out (HS8.out _) (HO8.out _) (By_one _ _) ?_)
    have hgot := setRow_heap w6 (w.heap.size + 1) _ (By (D % qq) 32).toArray _ _ HR6.out
    refine bodyPost_ret (results_cell_row (by rfl) _ _ (w.heap.size + 1) _ _ _ _ (by rfl) hgot Tryd.underlying23 rfl (HS8.out _)) rfl ?_
    exact ⟨rfl, below_setRow (HB0.out.trans (HBE6.out.mono (by rw [HSZ.out]; omega))) (by omega) _⟩

set_option maxHeartbeats 1600000 in
theorem reduce_fn (A : Nat) (hA : A < 256 ^ 64) (w : World) (hq : Qt w) :
    Calls Tryd.prog 8 #[.agg (By A 64).toArray] w fun e w' => e = .returned (.agg (By (A % qq) 32).toArray) ∧ Below w.heap.size w w' := by
  have ha := (Row.new w (By A 64) 22).alloc (.cells (List.replicate 32 (Value.int .u8 0)).toArray 23)
  have hr := Row.new1 w (.cells (By A 64).toArray 22) (List.replicate 32 (Value.int .u8 0)) 23
  have hb0 := Below.alloc2 w (.cells (By A 64).toArray 22) (.cells (List.replicate 32 (Value.int .u8 0)).toArray 23)
  have hqw := hq.below hb0 hq.lt
  have hsz : ((w.alloc (.cells (By A 64).toArray 22)).alloc (.cells (List.replicate 32 (Value.int .u8 0)).toArray 23)).heap.size = w.heap.size + 1 + 1 := by simp
  have hA8 : A < M64 8 := by rw [← p64]; exact hA
  have hO6 : ∀ x, ([Value.int .u64 0, .int .u64 0, .int .u64 0, .int .u64 0, .int .u64 0, .int .u64 0, .int .u64 0, .int .u64 0]).toArray.size = (Nm x).toArray.size := fun _ => rfl
  have hS : ∀ x, (Tryd.prog.info? 36).map (·.size) = some (Nm x).toArray.size := nm_info
  have hL : ∀ x, (Tryd.prog.info? 36).map (·.size) = some (Nm x).length := nm_len
  have hS8 : ∀ x, (Tryd.prog.info? 23).map (·.size) = some (By x 32).toArray.size := by_info
  have hO8 : ∀ x, (List.replicate 32 (Value.int .u8 0)).toArray.size = (By x 32).toArray.size := fun x => by rw [List.size_toArray, List.size_toArray, By_length, List.length_replicate]
  have HO6 := Lib.hid hO6
  have HS4 := Lib.hid hS
  have HL4 := Lib.hid hL
  have HS8 := Lib.hid hS8
  have HO8 := Lib.hid hO8
  clear hO6 hS hL hS8 hO8
  have HA := Lib.hid ha
  have HR := Lib.hid hr
  have HB0 := Lib.hid hb0
  have HQW := Lib.hid hqw
  have HSZ := Lib.hid hsz
  have HA8 := Lib.hid hA8
  have HA0 := Lib.hid hA
  clear ha hr hb0 hq hqw hsz hA8 hA
  go_enter Tryd.func8, Tryd.ntmps8
  go_wp2_with fail
  refine (read_by A 64 w.heap.size 22 _ (by decide) HA0.out HA.out).mono ?_
  rintro e w4 ⟨rfl, hb4⟩
  have hr4 := HR.out.belowAll hb4
  have hbe4 := HB0.out.trans (hb4.mono (by rw [HSZ.out]; omega))
  have hq4 := HQW.out.below hb4 HQW.out.lt
  have HR4 := Lib.hid hr4
  have HBE4 := Lib.hid hbe4
  have HQ4 := Lib.hid hq4
  clear hb4 hr4 hbe4 hq4
  go_wp2_with fail
  refine (rest_any A HA8.out _ HQ4.out).mono ?_
  rintro e w5 ⟨rfl, hb5⟩
  have hr5 := HR4.out.belowAll hb5
  have hbe5 := HBE4.out.trans (hb5.mono HBE4.out.size)
  have HR5 := Lib.hid hr5
  have HBE5 := Lib.hid hbe5
  clear hb5 hr5 hbe5
  go_wp2_with fail
  refine (bytes_any (A % qq) _).mono ?_
  rintro e w6 ⟨rfl, hb6⟩
  have hr6 := HR5.out.belowAll hb6
  have hbe6 := HBE5.out.trans (hb6.mono HBE5.out.size)
  have HR6 := Lib.hid hr6
  have HBE6 := Lib.hid hbe6
  clear hb6 hr6 hbe6
  go_wp2_with (refine wpList_store_row rfl 23 (.tmp 2) (.tmp 6) rfl (w.heap.size + 1) _ rfl rfl 23 _ HR6.out (HS8.out _) (HO8.out _) (By_one _ _) ?_)
  have hgot := setRow_heap w6 (w.heap.size + 1) _ (By (A % qq) 32).toArray _ _ HR6.out
  refine bodyPost_ret (results_cell_row (by rfl) _ _ (w.heap.size + 1) _ _ _ _ (by rfl) hgot Tryd.underlying23 rfl (HS8.out _)) rfl ?_
  exact ⟨rfl, below_setRow HBE6.out (by omega) _⟩


end Go.Proofs.YtklbcpaoccdmeaaDoor
