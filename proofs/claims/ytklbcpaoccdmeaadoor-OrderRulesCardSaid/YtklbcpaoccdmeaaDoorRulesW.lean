/- The rules of numbers modulo the order: the law's own walk. -/
import Derived.Test.YtklbcpaoccdmeaaDoorRulM
import Derived.Deep.RegionHeld3
import Derived.Deep.MidRow
import Derived.Laws.BitsAllLaws
import Derived.Deep.CutRange
import Derived.Deep.CutBlock
import Derived.RegionTactic
import Derived.Lib.Hide
import Derived.IntWalk
namespace Go.Proofs.YtklbcpaoccdmeaaDoor
set_option maxRecDepth 100000
open Go.RowKit

set_option linter.unusedSimpArgs false
set_option maxHeartbeats 12800000 in
theorem rules_law (X Y Z : Nat) (hX : X < 256 ^ 32) (hY : Y < 256 ^ 32) (hZ : Z < 256 ^ 32) (w : World) (hq : Qt w) :
    Calls Tryd.prog 7 #[.agg (By X 32).toArray, .agg (By Y 32).toArray, .agg (By Z 32).toArray] w fun e w' => e = .returned (.bool true) ∧ Below w.heap.size w w' := by
  have hL8 : ∀ x, (Tryd.prog.info? 23).map (·.size) = some (By x 32).length := by_len
  have hS8 : ∀ x, (Tryd.prog.info? 23).map (·.size) = some (By x 32).toArray.size := by_info
  have hO8 : ∀ x, (List.replicate 32 (Value.int .u8 0)).toArray.size = (By x 32).toArray.size := fun x => by rw [List.size_toArray, List.size_toArray, By_length, List.length_replicate]
  have hp : Pk (((((w.alloc (.cells (By X 32).toArray 23)).alloc (.cells (By Y 32).toArray 23)).alloc (.cells (By Z 32).toArray 23)).alloc (.cells (List.replicate 32 (Value.int .u8 0)).toArray 23)).alloc (.cells (Value.int .u8 1 :: List.replicate 31 (Value.int .u8 0)).toArray 23)) w.heap.size X Y Z := by
    have hz := (Row.new3 w (.cells (By X 32).toArray 23) (.cells (By Y 32).toArray 23) (.cells (By Z 32).toArray 23) (List.replicate 32 (Value.int .u8 0)) 23).alloc (.cells (Value.int .u8 1 :: List.replicate 31 (Value.int .u8 0)).toArray 23)
    have ho := Row.new4 w (.cells (By X 32).toArray 23) (.cells (By Y 32).toArray 23) (.cells (By Z 32).toArray 23) (.cells (List.replicate 32 (Value.int .u8 0)).toArray 23) (Value.int .u8 1 :: List.replicate 31 (Value.int .u8 0)) 23
    have hz2 : Row (((((w.alloc (.cells (By X 32).toArray 23)).alloc (.cells (By Y 32).toArray 23)).alloc (.cells (By Z 32).toArray 23)).alloc (.cells (List.replicate 32 (Value.int .u8 0)).toArray 23)).alloc (.cells (Value.int .u8 1 :: List.replicate 31 (Value.int .u8 0)).toArray 23)) (w.heap.size + 1 + 1 + 1) 23 (By 0 32) := by rw [By_zero]; exact hz
    have ho2 : Row (((((w.alloc (.cells (By X 32).toArray 23)).alloc (.cells (By Y 32).toArray 23)).alloc (.cells (By Z 32).toArray 23)).alloc (.cells (List.replicate 32 (Value.int .u8 0)).toArray 23)).alloc (.cells (Value.int .u8 1 :: List.replicate 31 (Value.int .u8 0)).toArray 23)) (w.heap.size + 1 + 1 + 1 + 1) 23 (By 1 32) := by rw [By_1]; exact ho
    exact ⟨((((Row.new w (By X 32) _).alloc _).alloc _).alloc _).alloc _, (((Row.new1 w _ (By Y 32) _).alloc _).alloc _).alloc _, ((Row.new2 w _ _ (By Z 32) _).alloc _).alloc _, hz2, ho2, hq.below (Below.alloc5 w _ _ _ _ _) hq.lt⟩
  have hbe : Below w.heap.size w (((((w.alloc (.cells (By X 32).toArray 23)).alloc (.cells (By Y 32).toArray 23)).alloc (.cells (By Z 32).toArray 23)).alloc (.cells (List.replicate 32 (Value.int .u8 0)).toArray 23)).alloc (.cells (Value.int .u8 1 :: List.replicate 31 (Value.int .u8 0)).toArray 23)) := Below.alloc5 w _ _ _ _ _
  have HP := Lib.hid hp
  have HBE := Lib.hid hbe
  have HL8 := Lib.hid hL8
  have HS8 := Lib.hid hS8
  have HO8 := Lib.hid hO8
  have HXL := Lib.hid hX
  have HYL := Lib.hid hY
  have HZL := Lib.hid hZ
  clear hp hbe hL8 hS8 hO8 hX hY hZ hq
  go_enter Tryd.func7, Tryd.ntmps7
  go_upto_region 3 with fail
  change Code.wp _ _ _ _ (((((w.alloc (.cells (By X 32).toArray 23)).alloc (.cells (By Y 32).toArray 23)).alloc (.cells (By Z 32).toArray 23)).alloc (.cells (List.replicate 32 (Value.int .u8 0)).toArray 23)).alloc (.cells (Value.int .u8 1 :: List.replicate 31 (Value.int .u8 0)).toArray 23))
  generalize (((((w.alloc (.cells (By X 32).toArray 23)).alloc (.cells (By Y 32).toArray 23)).alloc (.cells (By Z 32).toArray 23)).alloc (.cells (List.replicate 32 (Value.int .u8 0)).toArray 23)).alloc (.cells (Value.int .u8 1 :: List.replicate 31 (Value.int .u8 0)).toArray 23)) = W0 at *
  go_wp2_with (first
    | (refine wpList_load_row rfl 23 (.tmp 3) rfl w.heap.size rfl 23 _ (0, 0) _ HP.out.a Tryd.underlying23 rfl (HS8.out _) ?_)
    | (refine wpList_load_row rfl 23 (.tmp 4) rfl (w.heap.size + 1) rfl 23 _ (0, 0) _ HP.out.b Tryd.underlying23 rfl (HS8.out _) ?_)
    | (refine wpList_load_row rfl 23 (.tmp 7) rfl (w.heap.size + 1 + 1 + 1) rfl 23 _ (0, 0) _ HP.out.z Tryd.underlying23 rfl (HS8.out _) ?_))
  refine (muladd_q X Y 0 HXL.out HYL.out (n_lt (by decide)) _ HP.out.q).mono ?_
  rintro e W1 ⟨rfl, hb1⟩
  have hp1 := HP.out.below hb1
  have hbe1 := HBE.out.trans (hb1.mono HBE.out.size)
  have hsz1 : w.heap.size + 1 + 1 + 1 + 1 < W1.heap.size := hp1.o.lt
  have hp2 := hp1.below ((Below.refl _ _).alloc (Nat.le_refl _) (.cells (List.replicate 32 (Value.int .u8 0)).toArray 23))
  have hn2 := Row.new W1 (List.replicate 32 (Value.int .u8 0)) 23
  have hp3 : Pk ((W1.alloc (.cells (List.replicate 32 (Value.int .u8 0)).toArray 23)).setRow W1.heap.size (By (mulq X Y 0) 32).toArray) w.heap.size X Y Z := ⟨hp2.a.setRowOther (by omega) _, hp2.b.setRowOther (by omega) _, hp2.c.setRowOther (by omega) _, hp2.z.setRowOther (by omega) _, hp2.o.setRowOther (by omega) _, by
    obtain ⟨t, h⟩ := hp2.q
    exact ⟨t, (setRow_other _ _ _ _ (by omega)).trans h⟩⟩
  have hn3 := hn2.setRow (By (mulq X Y 0) 32)
  have hbe3 := below_setRow (g := W1.heap.size) (hbe1.alloc hbe1.size (.cells (List.replicate 32 (Value.int .u8 0)).toArray 23)) (by omega) (By (mulq X Y 0) 32).toArray
  have HN2 := Lib.hid hn2
  have HAB := Lib.hid hn3
  have HBE3 := Lib.hid hbe3
  clear HP HBE
  have HP := Lib.hid hp3
  clear hb1 hp1 hbe1 hsz1 hp2 hn2 hp3 hn3 hbe3
  go_upto_region 4 with (refine wpList_store_row rfl 23 (.tmp 9) (.tmp 14) rfl W1.heap.size _ rfl rfl 23 _ HN2.out (HS8.out _) (HO8.out _) (By_one _ _) ?_)
  simp only [Act.put]
  change Code.wp _ _ _ _ ((W1.alloc (.cells (List.replicate 32 (Value.int .u8 0)).toArray 23)).setRow W1.heap.size (By (mulq X Y 0) 32).toArray)
  generalize hg9 : W1.heap.size = g9 at *
  have HG9 := Lib.hid hg9
  clear hg9 HN2
  generalize (W1.alloc (.cells (List.replicate 32 (Value.int .u8 0)).toArray 23)).setRow g9 (By (mulq X Y 0) 32).toArray = W at *
  go_cut [39] from 15 to 38 (fun v wx => v = .bool false ∧ Below W.heap.size W wx)
  case first =>
    refine wp_region_any (by kernel_rfl) ?_
    change wpAny _ _ _ _ _ _ _ (World.drew _)
    refine wpAny_of_held (S := (fun w' : World => Below W.heap.size W w')) _ _ _ _ ?_
    have hHeld := ((Below.refl W.heap.size W).drew)
    refine wpAnyH_take (i := 0) (v := .agg (By (mulq X Y 0) 32).toArray) rfl (by kernel_rfl) (by kernel_rfl) (by kernel_rfl) (fun _ _ _ h => h) (yieldsIf_load_mid (by rfl) 23 (.tmp 9) rfl g9 0 rfl (By (mulq X Y 0) 32) _ (fun w' hSw => (HAB.out.belowAll hSw).range) (by rfl) rfl (HL8.out _)) hHeld ?_
    change wpAnyH _ _ _ _ _ _ _ (Act.put _ (some 15) _) _
    simp only [Act.put, List.setIfInBounds_toArray, List.set_cons_zero, List.set_cons_succ]
    refine wpAnyH_ready (rs := [1]) (by kernel_rfl) (by simp) ?_
    refine AllReadyH.cons rfl (fun K hK => ?_) AllReadyH.nil
    rw [if_pos (by kernel_rfl)]
    go_simp
    refine (below_true (mulq X Y 0) (mulq_below _ _ _) (mulq_lt _ _ _) _ (HP.out.below hHeld).q).mono ?_
    rintro e w_c0 ⟨rfl, hbw_c0⟩
    refine hK.out _ _ (hHeld.trans (hbw_c0.mono hHeld.size)) (fun hHeld => ?_)
    clear hK K
    refine wpAnyH_take (i := 2) (v := ?_) rfl (by kernel_rfl) (by kernel_rfl) (by kernel_rfl) (fun _ _ _ h => h) (Or.inl ⟨by rfl, ?_⟩) hHeld ?_
    rotate_left
    · (intro w' hSw; go_simp; try (with_reducible rfl))
    change wpAnyH _ _ _ _ _ _ _ (Act.put _ (some 17) _) _
    simp only [Act.put, List.setIfInBounds_toArray, List.set_cons_zero, List.set_cons_succ]
    refine wpAnyH_take (i := 3) (v := ?_) rfl (by kernel_rfl) (by kernel_rfl) (by kernel_rfl) (fun _ _ _ h => h) (Or.inl ⟨by rfl, ?_⟩) hHeld ?_
    rotate_left
    · (intro w' hSw; go_simp; try (with_reducible rfl))
    change wpAnyH _ _ _ _ _ _ _ (Act.put _ (some 18) _) _
    simp only [Act.put, List.setIfInBounds_toArray, List.set_cons_zero, List.set_cons_succ]
    refine wpAnyH_take (i := 4) (v := .agg (By (mulq X Y 0) 32).toArray) rfl (by kernel_rfl) (by kernel_rfl) (by kernel_rfl) (fun _ _ _ h => h) (yieldsIf_load_mid (by rfl) 23 (.tmp 9) rfl g9 0 rfl (By (mulq X Y 0) 32) _ (fun w' hSw => (HAB.out.belowAll hSw).range) (by rfl) rfl (HL8.out _)) hHeld ?_
    change wpAnyH _ _ _ _ _ _ _ (Act.put _ (some 19) _) _
    simp only [Act.put, List.setIfInBounds_toArray, List.set_cons_zero, List.set_cons_succ]
    refine wpAnyH_take (i := 5) (v := .agg (By Y 32).toArray) rfl (by kernel_rfl) (by kernel_rfl) (by kernel_rfl) (fun _ _ _ h => h) (yieldsIf_load_mid (by rfl) 23 (.tmp 4) rfl (w.heap.size + 1) 0 rfl (By Y 32) _ (fun w' hSw => (HP.out.below hSw).b.range) (by rfl) rfl (HL8.out _)) hHeld ?_
    change wpAnyH _ _ _ _ _ _ _ (Act.put _ (some 20) _) _
    simp only [Act.put, List.setIfInBounds_toArray, List.set_cons_zero, List.set_cons_succ]
    refine wpAnyH_take (i := 6) (v := .agg (By X 32).toArray) rfl (by kernel_rfl) (by kernel_rfl) (by kernel_rfl) (fun _ _ _ h => h) (yieldsIf_load_mid (by rfl) 23 (.tmp 3) rfl w.heap.size 0 rfl (By X 32) _ (fun w' hSw => (HP.out.below hSw).a.range) (by rfl) rfl (HL8.out _)) hHeld ?_
    change wpAnyH _ _ _ _ _ _ _ (Act.put _ (some 21) _) _
    simp only [Act.put, List.setIfInBounds_toArray, List.set_cons_zero, List.set_cons_succ]
    refine wpAnyH_take (i := 7) (v := .agg (By 0 32).toArray) rfl (by kernel_rfl) (by kernel_rfl) (by kernel_rfl) (fun _ _ _ h => h) (yieldsIf_load_mid (by rfl) 23 (.tmp 7) rfl (w.heap.size + 1 + 1 + 1) 0 rfl (By 0 32) _ (fun w' hSw => (HP.out.below hSw).z.range) (by rfl) rfl (HL8.out _)) hHeld ?_
    change wpAnyH _ _ _ _ _ _ _ (Act.put _ (some 22) _) _
    simp only [Act.put, List.setIfInBounds_toArray, List.set_cons_zero, List.set_cons_succ]
    refine wpAnyH_ready (rs := [8]) (by kernel_rfl) (by simp) ?_
    refine AllReadyH.cons rfl (fun K hK => ?_) AllReadyH.nil
    rw [if_pos (by kernel_rfl)]
    go_simp
    refine (muladd_q Y X 0 HYL.out HXL.out (n_lt (by decide)) _ (HP.out.below hHeld).q).mono ?_
    rintro e w_c1 ⟨rfl, hbw_c1⟩
    refine hK.out _ _ (hHeld.trans (hbw_c1.mono hHeld.size)) (fun hHeld => ?_)
    clear hK K
    refine wpAnyH_take (i := 9) (v := .bool false) rfl (by kernel_rfl) (by kernel_rfl) (by kernel_rfl) (fun _ _ _ h => h) (yieldsIf_binop (by rfl) .neq 23 23 (.tmp 19) (.tmp 23) rfl (.agg (By (mulq X Y 0) 32).toArray) (.agg (By (mulq Y X 0) 32).toArray) (.bool false) rfl rfl (bgrd _ _ _ _ _) (bne_same (r1 _ _))) hHeld ?_
    change wpAnyH _ _ _ _ _ _ _ (Act.put _ (some 24) _) _
    simp only [Act.put, List.setIfInBounds_toArray, List.set_cons_zero, List.set_cons_succ]
    refine wpAnyH_take (i := 10) (v := ?_) rfl (by kernel_rfl) (by kernel_rfl) (by kernel_rfl) (fun _ _ _ h => h) (Or.inl ⟨by rfl, ?_⟩) hHeld ?_
    rotate_left
    · (intro w' hSw; go_simp; try (with_reducible rfl))
    change wpAnyH _ _ _ _ _ _ _ (Act.put _ (some 25) _) _
    simp only [Act.put, List.setIfInBounds_toArray, List.set_cons_zero, List.set_cons_succ]
    refine wpAnyH_take (i := 11) (v := ?_) rfl (by kernel_rfl) (by kernel_rfl) (by kernel_rfl) (fun _ _ _ h => h) (Or.inl ⟨by rfl, ?_⟩) hHeld ?_
    rotate_left
    · (intro w' hSw; go_simp; try (with_reducible rfl))
    change wpAnyH _ _ _ _ _ _ _ (Act.put _ (some 26) _) _
    simp only [Act.put, List.setIfInBounds_toArray, List.set_cons_zero, List.set_cons_succ]
    refine wpAnyH_take (i := 12) (v := .agg (By (mulq X Y 0) 32).toArray) rfl (by kernel_rfl) (by kernel_rfl) (by kernel_rfl) (fun _ _ _ h => h) (yieldsIf_load_mid (by rfl) 23 (.tmp 9) rfl g9 0 rfl (By (mulq X Y 0) 32) _ (fun w' hSw => (HAB.out.belowAll hSw).range) (by rfl) rfl (HL8.out _)) hHeld ?_
    change wpAnyH _ _ _ _ _ _ _ (Act.put _ (some 27) _) _
    simp only [Act.put, List.setIfInBounds_toArray, List.set_cons_zero, List.set_cons_succ]
    refine wpAnyH_take (i := 13) (v := .agg (By Z 32).toArray) rfl (by kernel_rfl) (by kernel_rfl) (by kernel_rfl) (fun _ _ _ h => h) (yieldsIf_load_mid (by rfl) 23 (.tmp 5) rfl (w.heap.size + 1 + 1) 0 rfl (By Z 32) _ (fun w' hSw => (HP.out.below hSw).c.range) (by rfl) rfl (HL8.out _)) hHeld ?_
    change wpAnyH _ _ _ _ _ _ _ (Act.put _ (some 28) _) _
    simp only [Act.put, List.setIfInBounds_toArray, List.set_cons_zero, List.set_cons_succ]
    refine wpAnyH_take (i := 14) (v := .agg (By 0 32).toArray) rfl (by kernel_rfl) (by kernel_rfl) (by kernel_rfl) (fun _ _ _ h => h) (yieldsIf_load_mid (by rfl) 23 (.tmp 7) rfl (w.heap.size + 1 + 1 + 1) 0 rfl (By 0 32) _ (fun w' hSw => (HP.out.below hSw).z.range) (by rfl) rfl (HL8.out _)) hHeld ?_
    change wpAnyH _ _ _ _ _ _ _ (Act.put _ (some 29) _) _
    simp only [Act.put, List.setIfInBounds_toArray, List.set_cons_zero, List.set_cons_succ]
    refine wpAnyH_take (i := 16) (v := .agg (By X 32).toArray) rfl (by kernel_rfl) (by kernel_rfl) (by kernel_rfl) (fun _ _ _ h => h) (yieldsIf_load_mid (by rfl) 23 (.tmp 3) rfl w.heap.size 0 rfl (By X 32) _ (fun w' hSw => (HP.out.below hSw).a.range) (by rfl) rfl (HL8.out _)) hHeld ?_
    change wpAnyH _ _ _ _ _ _ _ (Act.put _ (some 31) _) _
    simp only [Act.put, List.setIfInBounds_toArray, List.set_cons_zero, List.set_cons_succ]
    refine wpAnyH_take (i := 17) (v := .agg (By Y 32).toArray) rfl (by kernel_rfl) (by kernel_rfl) (by kernel_rfl) (fun _ _ _ h => h) (yieldsIf_load_mid (by rfl) 23 (.tmp 4) rfl (w.heap.size + 1) 0 rfl (By Y 32) _ (fun w' hSw => (HP.out.below hSw).b.range) (by rfl) rfl (HL8.out _)) hHeld ?_
    change wpAnyH _ _ _ _ _ _ _ (Act.put _ (some 32) _) _
    simp only [Act.put, List.setIfInBounds_toArray, List.set_cons_zero, List.set_cons_succ]
    refine wpAnyH_take (i := 18) (v := .agg (By Z 32).toArray) rfl (by kernel_rfl) (by kernel_rfl) (by kernel_rfl) (fun _ _ _ h => h) (yieldsIf_load_mid (by rfl) 23 (.tmp 5) rfl (w.heap.size + 1 + 1) 0 rfl (By Z 32) _ (fun w' hSw => (HP.out.below hSw).c.range) (by rfl) rfl (HL8.out _)) hHeld ?_
    change wpAnyH _ _ _ _ _ _ _ (Act.put _ (some 33) _) _
    simp only [Act.put, List.setIfInBounds_toArray, List.set_cons_zero, List.set_cons_succ]
    refine wpAnyH_take (i := 19) (v := .agg (By 0 32).toArray) rfl (by kernel_rfl) (by kernel_rfl) (by kernel_rfl) (fun _ _ _ h => h) (yieldsIf_load_mid (by rfl) 23 (.tmp 7) rfl (w.heap.size + 1 + 1 + 1) 0 rfl (By 0 32) _ (fun w' hSw => (HP.out.below hSw).z.range) (by rfl) rfl (HL8.out _)) hHeld ?_
    change wpAnyH _ _ _ _ _ _ _ (Act.put _ (some 34) _) _
    simp only [Act.put, List.setIfInBounds_toArray, List.set_cons_zero, List.set_cons_succ]
    refine wpAnyH_take (i := 21) (v := .agg (By 0 32).toArray) rfl (by kernel_rfl) (by kernel_rfl) (by kernel_rfl) (fun _ _ _ h => h) (yieldsIf_load_mid (by rfl) 23 (.tmp 7) rfl (w.heap.size + 1 + 1 + 1) 0 rfl (By 0 32) _ (fun w' hSw => (HP.out.below hSw).z.range) (by rfl) rfl (HL8.out _)) hHeld ?_
    change wpAnyH _ _ _ _ _ _ _ (Act.put _ (some 36) _) _
    simp only [Act.put, List.setIfInBounds_toArray, List.set_cons_zero, List.set_cons_succ]
    refine wpAnyH_ready (rs := [15]) (by kernel_rfl) (by simp) ?_
    refine AllReadyH.cons rfl (fun K hK => ?_) AllReadyH.nil
    rw [if_pos (by kernel_rfl)]
    go_simp
    refine (muladd_q (mulq X Y 0) Z 0 (mulq_lt _ _ _) HZL.out (n_lt (by decide)) _ (HP.out.below hHeld).q).mono ?_
    rintro e w_c2 ⟨rfl, hbw_c2⟩
    refine hK.out _ _ (hHeld.trans (hbw_c2.mono hHeld.size)) (fun hHeld => ?_)
    clear hK K
    refine wpAnyH_ready (rs := [20]) (by kernel_rfl) (by simp) ?_
    refine AllReadyH.cons rfl (fun K hK => ?_) AllReadyH.nil
    rw [if_pos (by kernel_rfl)]
    go_simp
    refine (muladd_q Y Z 0 HYL.out HZL.out (n_lt (by decide)) _ (HP.out.below hHeld).q).mono ?_
    rintro e w_c3 ⟨rfl, hbw_c3⟩
    refine hK.out _ _ (hHeld.trans (hbw_c3.mono hHeld.size)) (fun hHeld => ?_)
    clear hK K
    refine wpAnyH_ready (rs := [22]) (by kernel_rfl) (by simp) ?_
    refine AllReadyH.cons rfl (fun K hK => ?_) AllReadyH.nil
    rw [if_pos (by kernel_rfl)]
    go_simp
    refine (muladd_q X (mulq Y Z 0) 0 HXL.out (mulq_lt _ _ _) (n_lt (by decide)) _ (HP.out.below hHeld).q).mono ?_
    rintro e w_c4 ⟨rfl, hbw_c4⟩
    refine hK.out _ _ (hHeld.trans (hbw_c4.mono hHeld.size)) (fun hHeld => ?_)
    clear hK K
    refine wpAnyH_take (i := 23) (v := .bool false) rfl (by kernel_rfl) (by kernel_rfl) (by kernel_rfl) (fun _ _ _ h => h) (yieldsIf_binop (by rfl) .neq 23 23 (.tmp 30) (.tmp 37) rfl (.agg (By (mulq (mulq X Y 0) Z 0) 32).toArray) (.agg (By (mulq X (mulq Y Z 0) 0) 32).toArray) (.bool false) rfl rfl (bgrd _ _ _ _ _) (bne_same (r2 _ _ _))) hHeld ?_
    change wpAnyH _ _ _ _ _ _ _ (Act.put _ (some 38) _) _
    simp only [Act.put, List.setIfInBounds_toArray, List.set_cons_zero, List.set_cons_succ]
    refine wpAnyH_take (i := 24) (v := ?_) rfl (by kernel_rfl) (by kernel_rfl) (by kernel_rfl) (fun _ _ _ h => h) (Or.inl ⟨by rfl, ?_⟩) hHeld ?_
    rotate_left
    · (intro w' hSw; go_simp; try (with_reducible rfl))
    change wpAnyH _ _ _ _ _ _ _ (Act.put _ (some 39) _) _
    simp only [Act.put, List.setIfInBounds_toArray, List.set_cons_zero, List.set_cons_succ]
    refine wpAnyH_done (by kernel_rfl) ?_ _
    go_step
    go_step
    go_meet
    exact ⟨rfl, hHeld⟩
  case rest =>
    obtain ⟨rfl, hb4⟩ := hcut
    have hp4 := HP.out.below hb4
    have hbe4 := HBE3.out.trans (hb4.mono HBE3.out.size)
    clear HP HAB
    have HP := Lib.hid hp4
    have HBE4 := Lib.hid hbe4
    clear hb4 hp4 hbe4 HBE3
    clear W
    obtain ⟨W, rfl⟩ : ∃ x, x = wc := ⟨_, rfl⟩
    go_upto_region 6 with fail
    go_cut [69] from 40 to 68 (fun v wx => v = .bool false ∧ Below W.heap.size W wx)
    case first =>
      refine wp_region_any (by kernel_rfl) ?_
      change wpAny _ _ _ _ _ _ _ (World.drew _)
      refine wpAny_of_held (S := (fun w' : World => Below W.heap.size W w')) _ _ _ _ ?_
      have hHeld := ((Below.refl W.heap.size W).drew)
      refine wpAnyH_take (i := 0) (v := .agg (By X 32).toArray) rfl (by kernel_rfl) (by kernel_rfl) (by kernel_rfl) (fun _ _ _ h => h) (yieldsIf_load_mid (by rfl) 23 (.tmp 3) rfl w.heap.size 0 rfl (By X 32) _ (fun w' hSw => (HP.out.below hSw).a.range) (by rfl) rfl (HL8.out _)) hHeld ?_
      change wpAnyH _ _ _ _ _ _ _ (Act.put _ (some 40) _) _
      simp only [Act.put, List.setIfInBounds_toArray, List.set_cons_zero, List.set_cons_succ]
      refine wpAnyH_take (i := 1) (v := .agg (By Y 32).toArray) rfl (by kernel_rfl) (by kernel_rfl) (by kernel_rfl) (fun _ _ _ h => h) (yieldsIf_load_mid (by rfl) 23 (.tmp 4) rfl (w.heap.size + 1) 0 rfl (By Y 32) _ (fun w' hSw => (HP.out.below hSw).b.range) (by rfl) rfl (HL8.out _)) hHeld ?_
      change wpAnyH _ _ _ _ _ _ _ (Act.put _ (some 41) _) _
      simp only [Act.put, List.setIfInBounds_toArray, List.set_cons_zero, List.set_cons_succ]
      refine wpAnyH_take (i := 2) (v := .agg (By Z 32).toArray) rfl (by kernel_rfl) (by kernel_rfl) (by kernel_rfl) (fun _ _ _ h => h) (yieldsIf_load_mid (by rfl) 23 (.tmp 5) rfl (w.heap.size + 1 + 1) 0 rfl (By Z 32) _ (fun w' hSw => (HP.out.below hSw).c.range) (by rfl) rfl (HL8.out _)) hHeld ?_
      change wpAnyH _ _ _ _ _ _ _ (Act.put _ (some 42) _) _
      simp only [Act.put, List.setIfInBounds_toArray, List.set_cons_zero, List.set_cons_succ]
      refine wpAnyH_take (i := 5) (v := .agg (By Z 32).toArray) rfl (by kernel_rfl) (by kernel_rfl) (by kernel_rfl) (fun _ _ _ h => h) (yieldsIf_load_mid (by rfl) 23 (.tmp 5) rfl (w.heap.size + 1 + 1) 0 rfl (By Z 32) _ (fun w' hSw => (HP.out.below hSw).c.range) (by rfl) rfl (HL8.out _)) hHeld ?_
      change wpAnyH _ _ _ _ _ _ _ (Act.put _ (some 45) _) _
      simp only [Act.put, List.setIfInBounds_toArray, List.set_cons_zero, List.set_cons_succ]
      refine wpAnyH_take (i := 6) (v := .agg (By Y 32).toArray) rfl (by kernel_rfl) (by kernel_rfl) (by kernel_rfl) (fun _ _ _ h => h) (yieldsIf_load_mid (by rfl) 23 (.tmp 4) rfl (w.heap.size + 1) 0 rfl (By Y 32) _ (fun w' hSw => (HP.out.below hSw).b.range) (by rfl) rfl (HL8.out _)) hHeld ?_
      change wpAnyH _ _ _ _ _ _ _ (Act.put _ (some 46) _) _
      simp only [Act.put, List.setIfInBounds_toArray, List.set_cons_zero, List.set_cons_succ]
      refine wpAnyH_take (i := 7) (v := .agg (By X 32).toArray) rfl (by kernel_rfl) (by kernel_rfl) (by kernel_rfl) (fun _ _ _ h => h) (yieldsIf_load_mid (by rfl) 23 (.tmp 3) rfl w.heap.size 0 rfl (By X 32) _ (fun w' hSw => (HP.out.below hSw).a.range) (by rfl) rfl (HL8.out _)) hHeld ?_
      change wpAnyH _ _ _ _ _ _ _ (Act.put _ (some 47) _) _
      simp only [Act.put, List.setIfInBounds_toArray, List.set_cons_zero, List.set_cons_succ]
      refine wpAnyH_ready (rs := [3, 8]) (by kernel_rfl) (by simp) ?_
      refine AllReadyH.cons rfl (fun K hK => ?_) (AllReadyH.cons rfl (fun K hK => ?_) AllReadyH.nil)
      · rw [if_pos (by kernel_rfl)]
        refine wp_buildArrs 3 #[(0, .tmp 40), (1, .tmp 41), (2, .tmp 42)] rfl [X, Y, Z] rfl (by decide) (by decide) rfl ?_
        have ha_3_b0 := ArrB.new2 W.drew [X, Y, Z] 23 (W.heap.size) (by simp)
        refine hK.out _ _ (hHeld.alloc hHeld.size _) (fun hHeld => ?_)
        clear hK K
        refine wpAnyH_ready (rs := [4, 8]) (by kernel_rfl) (by simp) ?_
        refine AllReadyH.cons rfl (fun K hK => ?_) (AllReadyH.cons rfl (fun K hK => ?_) AllReadyH.nil)
        · rw [if_pos (by kernel_rfl)]
          go_simp
          refine (sum_q [X, Y, Z] (W.heap.size) 0 3 3 _ rfl (all3 HXL.out HYL.out HZL.out) (by decide) ha_3_b0.1 ha_3_b0.2 (HP.out.below hHeld).q).mono ?_
          rintro e w_3_4_c1 ⟨rfl, hbw_3_4_c1⟩
          have haw_3_4_c1_3 := ha_3_b0.below hbw_3_4_c1
          refine hK.out _ _ (hHeld.trans (hbw_3_4_c1.mono hHeld.size)) (fun hHeld => ?_)
          clear hK K
          refine wpAnyH_ready (rs := [8]) (by kernel_rfl) (by simp) ?_
          refine AllReadyH.cons rfl (fun K hK => ?_) AllReadyH.nil
          rw [if_pos (by kernel_rfl)]
          refine wp_buildArrs 2 #[(0, .tmp 46), (1, .tmp 47)] rfl [Y, X] rfl (by decide) (by decide) rfl ?_
          have ha_3_4_b2 := ArrB.new2 w_3_4_c1 [Y, X] 23 (w_3_4_c1.heap.size) (by simp)
          have ha_3_4_b2_3 := haw_3_4_c1_3.alloc (.cells (side [Y, X]).toArray 23)
          refine hK.out _ _ (hHeld.alloc hHeld.size _) (fun hHeld => ?_)
          clear hK K
          refine wpAnyH_ready (rs := [9]) (by kernel_rfl) (by simp) ?_
          refine AllReadyH.cons rfl (fun K hK => ?_) AllReadyH.nil
          rw [if_pos (by kernel_rfl)]
          go_simp
          refine (sum_q [Y, X] (w_3_4_c1.heap.size) 0 2 2 _ rfl (all2 HYL.out HXL.out) (by decide) ha_3_4_b2.1 ha_3_4_b2.2 (HP.out.below hHeld).q).mono ?_
          rintro e w_3_4_c3 ⟨rfl, hbw_3_4_c3⟩
          have haw_3_4_c3_3 := ha_3_4_b2_3.below hbw_3_4_c3
          have haw_3_4_c3_8 := ha_3_4_b2.below hbw_3_4_c3
          refine hK.out _ _ (hHeld.trans (hbw_3_4_c3.mono hHeld.size)) (fun hHeld => ?_)
          clear hK K
          refine wpAnyH_ready (rs := [10]) (by kernel_rfl) (by simp) ?_
          refine AllReadyH.cons rfl (fun K hK => ?_) AllReadyH.nil
          rw [if_pos (by kernel_rfl)]
          refine wp_buildArrs 2 #[(0, .tmp 45), (1, .tmp 49)] rfl [Z, (sumq [Y, X])] rfl (by decide) (by decide) rfl ?_
          have ha_3_4_b4 := ArrB.new2 w_3_4_c3 [Z, (sumq [Y, X])] 23 (w_3_4_c3.heap.size) (by simp)
          have ha_3_4_b4_3 := haw_3_4_c3_3.alloc (.cells (side [Z, (sumq [Y, X])]).toArray 23)
          have ha_3_4_b4_8 := haw_3_4_c3_8.alloc (.cells (side [Z, (sumq [Y, X])]).toArray 23)
          refine hK.out _ _ (hHeld.alloc hHeld.size _) (fun hHeld => ?_)
          clear hK K
          refine wpAnyH_ready (rs := [11]) (by kernel_rfl) (by simp) ?_
          refine AllReadyH.cons rfl (fun K hK => ?_) AllReadyH.nil
          rw [if_pos (by kernel_rfl)]
          go_simp
          refine (sum_q [Z, (sumq [Y, X])] (w_3_4_c3.heap.size) 0 2 2 _ rfl (all2 HZL.out (sumq_lt _)) (by decide) ha_3_4_b4.1 ha_3_4_b4.2 (HP.out.below hHeld).q).mono ?_
          rintro e w_3_4_c5 ⟨rfl, hbw_3_4_c5⟩
          have haw_3_4_c5_3 := ha_3_4_b4_3.below hbw_3_4_c5
          have haw_3_4_c5_8 := ha_3_4_b4_8.below hbw_3_4_c5
          have haw_3_4_c5_10 := ha_3_4_b4.below hbw_3_4_c5
          refine hK.out _ _ (hHeld.trans (hbw_3_4_c5.mono hHeld.size)) (fun hHeld => ?_)
          clear hK K
          refine wpAnyH_take (i := 12) (v := .bool false) rfl (by kernel_rfl) (by kernel_rfl) (by kernel_rfl) (fun _ _ _ h => h) (yieldsIf_binop (by rfl) .neq 23 23 (.tmp 44) (.tmp 51) rfl (.agg (By (sumq [X, Y, Z]) 32).toArray) (.agg (By (sumq [Z, (sumq [Y, X])]) 32).toArray) (.bool false) rfl rfl (bgrd _ _ _ _ _) (bne_same (r3 _ _ _))) hHeld ?_
          change wpAnyH _ _ _ _ _ _ _ (Act.put _ (some 52) _) _
          simp only [Act.put, List.setIfInBounds_toArray, List.set_cons_zero, List.set_cons_succ]
          refine wpAnyH_take (i := 13) (v := ?_) rfl (by kernel_rfl) (by kernel_rfl) (by kernel_rfl) (fun _ _ _ h => h) (Or.inl ⟨by rfl, ?_⟩) hHeld ?_
          rotate_left
          · (intro w' hSw; go_simp; try (with_reducible rfl))
          change wpAnyH _ _ _ _ _ _ _ (Act.put _ (some 53) _) _
          simp only [Act.put, List.setIfInBounds_toArray, List.set_cons_zero, List.set_cons_succ]
          refine wpAnyH_take (i := 14) (v := .agg (By X 32).toArray) rfl (by kernel_rfl) (by kernel_rfl) (by kernel_rfl) (fun _ _ _ h => h) (yieldsIf_load_mid (by rfl) 23 (.tmp 3) rfl w.heap.size 0 rfl (By X 32) _ (fun w' hSw => (HP.out.below hSw).a.range) (by rfl) rfl (HL8.out _)) hHeld ?_
          change wpAnyH _ _ _ _ _ _ _ (Act.put _ (some 54) _) _
          simp only [Act.put, List.setIfInBounds_toArray, List.set_cons_zero, List.set_cons_succ]
          refine wpAnyH_take (i := 15) (v := .agg (By Y 32).toArray) rfl (by kernel_rfl) (by kernel_rfl) (by kernel_rfl) (fun _ _ _ h => h) (yieldsIf_load_mid (by rfl) 23 (.tmp 4) rfl (w.heap.size + 1) 0 rfl (By Y 32) _ (fun w' hSw => (HP.out.below hSw).b.range) (by rfl) rfl (HL8.out _)) hHeld ?_
          change wpAnyH _ _ _ _ _ _ _ (Act.put _ (some 55) _) _
          simp only [Act.put, List.setIfInBounds_toArray, List.set_cons_zero, List.set_cons_succ]
          refine wpAnyH_take (i := 16) (v := .agg (By Z 32).toArray) rfl (by kernel_rfl) (by kernel_rfl) (by kernel_rfl) (fun _ _ _ h => h) (yieldsIf_load_mid (by rfl) 23 (.tmp 5) rfl (w.heap.size + 1 + 1) 0 rfl (By Z 32) _ (fun w' hSw => (HP.out.below hSw).c.range) (by rfl) rfl (HL8.out _)) hHeld ?_
          change wpAnyH _ _ _ _ _ _ _ (Act.put _ (some 56) _) _
          simp only [Act.put, List.setIfInBounds_toArray, List.set_cons_zero, List.set_cons_succ]
          refine wpAnyH_take (i := 19) (v := .agg (By 0 32).toArray) rfl (by kernel_rfl) (by kernel_rfl) (by kernel_rfl) (fun _ _ _ h => h) (yieldsIf_load_mid (by rfl) 23 (.tmp 7) rfl (w.heap.size + 1 + 1 + 1) 0 rfl (By 0 32) _ (fun w' hSw => (HP.out.below hSw).z.range) (by rfl) rfl (HL8.out _)) hHeld ?_
          change wpAnyH _ _ _ _ _ _ _ (Act.put _ (some 59) _) _
          simp only [Act.put, List.setIfInBounds_toArray, List.set_cons_zero, List.set_cons_succ]
          refine wpAnyH_take (i := 21) (v := .agg (By X 32).toArray) rfl (by kernel_rfl) (by kernel_rfl) (by kernel_rfl) (fun _ _ _ h => h) (yieldsIf_load_mid (by rfl) 23 (.tmp 3) rfl w.heap.size 0 rfl (By X 32) _ (fun w' hSw => (HP.out.below hSw).a.range) (by rfl) rfl (HL8.out _)) hHeld ?_
          change wpAnyH _ _ _ _ _ _ _ (Act.put _ (some 61) _) _
          simp only [Act.put, List.setIfInBounds_toArray, List.set_cons_zero, List.set_cons_succ]
          refine wpAnyH_take (i := 22) (v := .agg (By Y 32).toArray) rfl (by kernel_rfl) (by kernel_rfl) (by kernel_rfl) (fun _ _ _ h => h) (yieldsIf_load_mid (by rfl) 23 (.tmp 4) rfl (w.heap.size + 1) 0 rfl (By Y 32) _ (fun w' hSw => (HP.out.below hSw).b.range) (by rfl) rfl (HL8.out _)) hHeld ?_
          change wpAnyH _ _ _ _ _ _ _ (Act.put _ (some 62) _) _
          simp only [Act.put, List.setIfInBounds_toArray, List.set_cons_zero, List.set_cons_succ]
          refine wpAnyH_take (i := 23) (v := .agg (By X 32).toArray) rfl (by kernel_rfl) (by kernel_rfl) (by kernel_rfl) (fun _ _ _ h => h) (yieldsIf_load_mid (by rfl) 23 (.tmp 3) rfl w.heap.size 0 rfl (By X 32) _ (fun w' hSw => (HP.out.below hSw).a.range) (by rfl) rfl (HL8.out _)) hHeld ?_
          change wpAnyH _ _ _ _ _ _ _ (Act.put _ (some 63) _) _
          simp only [Act.put, List.setIfInBounds_toArray, List.set_cons_zero, List.set_cons_succ]
          refine wpAnyH_take (i := 24) (v := .agg (By Z 32).toArray) rfl (by kernel_rfl) (by kernel_rfl) (by kernel_rfl) (fun _ _ _ h => h) (yieldsIf_load_mid (by rfl) 23 (.tmp 5) rfl (w.heap.size + 1 + 1) 0 rfl (By Z 32) _ (fun w' hSw => (HP.out.below hSw).c.range) (by rfl) rfl (HL8.out _)) hHeld ?_
          change wpAnyH _ _ _ _ _ _ _ (Act.put _ (some 64) _) _
          simp only [Act.put, List.setIfInBounds_toArray, List.set_cons_zero, List.set_cons_succ]
          refine wpAnyH_take (i := 25) (v := .agg (By 0 32).toArray) rfl (by kernel_rfl) (by kernel_rfl) (by kernel_rfl) (fun _ _ _ h => h) (yieldsIf_load_mid (by rfl) 23 (.tmp 7) rfl (w.heap.size + 1 + 1 + 1) 0 rfl (By 0 32) _ (fun w' hSw => (HP.out.below hSw).z.range) (by rfl) rfl (HL8.out _)) hHeld ?_
          change wpAnyH _ _ _ _ _ _ _ (Act.put _ (some 65) _) _
          simp only [Act.put, List.setIfInBounds_toArray, List.set_cons_zero, List.set_cons_succ]
          refine wpAnyH_ready (rs := [17]) (by kernel_rfl) (by simp) ?_
          refine AllReadyH.cons rfl (fun K hK => ?_) AllReadyH.nil
          rw [if_pos (by kernel_rfl)]
          refine wp_buildArrs 2 #[(0, .tmp 55), (1, .tmp 56)] rfl [Y, Z] rfl (by decide) (by decide) rfl ?_
          have ha_3_4_b6 := ArrB.new2 w_3_4_c5 [Y, Z] 23 (w_3_4_c5.heap.size) (by simp)
          have ha_3_4_b6_3 := haw_3_4_c5_3.alloc (.cells (side [Y, Z]).toArray 23)
          have ha_3_4_b6_8 := haw_3_4_c5_8.alloc (.cells (side [Y, Z]).toArray 23)
          have ha_3_4_b6_10 := haw_3_4_c5_10.alloc (.cells (side [Y, Z]).toArray 23)
          refine hK.out _ _ (hHeld.alloc hHeld.size _) (fun hHeld => ?_)
          clear hK K
          refine wpAnyH_ready (rs := [18]) (by kernel_rfl) (by simp) ?_
          refine AllReadyH.cons rfl (fun K hK => ?_) AllReadyH.nil
          rw [if_pos (by kernel_rfl)]
          go_simp
          refine (sum_q [Y, Z] (w_3_4_c5.heap.size) 0 2 2 _ rfl (all2 HYL.out HZL.out) (by decide) ha_3_4_b6.1 ha_3_4_b6.2 (HP.out.below hHeld).q).mono ?_
          rintro e w_3_4_c7 ⟨rfl, hbw_3_4_c7⟩
          have haw_3_4_c7_3 := ha_3_4_b6_3.below hbw_3_4_c7
          have haw_3_4_c7_8 := ha_3_4_b6_8.below hbw_3_4_c7
          have haw_3_4_c7_10 := ha_3_4_b6_10.below hbw_3_4_c7
          have haw_3_4_c7_17 := ha_3_4_b6.below hbw_3_4_c7
          refine hK.out _ _ (hHeld.trans (hbw_3_4_c7.mono hHeld.size)) (fun hHeld => ?_)
          clear hK K
          refine wpAnyH_ready (rs := [20]) (by kernel_rfl) (by simp) ?_
          refine AllReadyH.cons rfl (fun K hK => ?_) AllReadyH.nil
          rw [if_pos (by kernel_rfl)]
          go_simp
          refine (muladd_q X (sumq [Y, Z]) 0 HXL.out (sumq_lt _) (n_lt (by decide)) _ (HP.out.below hHeld).q).mono ?_
          rintro e w_3_4_c8 ⟨rfl, hbw_3_4_c8⟩
          have haw_3_4_c8_3 := haw_3_4_c7_3.below hbw_3_4_c8
          have haw_3_4_c8_8 := haw_3_4_c7_8.below hbw_3_4_c8
          have haw_3_4_c8_10 := haw_3_4_c7_10.below hbw_3_4_c8
          have haw_3_4_c8_17 := haw_3_4_c7_17.below hbw_3_4_c8
          refine hK.out _ _ (hHeld.trans (hbw_3_4_c8.mono hHeld.size)) (fun hHeld => ?_)
          clear hK K
          refine wpAnyH_ready (rs := [26]) (by kernel_rfl) (by simp) ?_
          refine AllReadyH.cons rfl (fun K hK => ?_) AllReadyH.nil
          rw [if_pos (by kernel_rfl)]
          go_simp
          refine (muladd_q X Z 0 HXL.out HZL.out (n_lt (by decide)) _ (HP.out.below hHeld).q).mono ?_
          rintro e w_3_4_c9 ⟨rfl, hbw_3_4_c9⟩
          have haw_3_4_c9_3 := haw_3_4_c8_3.below hbw_3_4_c9
          have haw_3_4_c9_8 := haw_3_4_c8_8.below hbw_3_4_c9
          have haw_3_4_c9_10 := haw_3_4_c8_10.below hbw_3_4_c9
          have haw_3_4_c9_17 := haw_3_4_c8_17.below hbw_3_4_c9
          refine hK.out _ _ (hHeld.trans (hbw_3_4_c9.mono hHeld.size)) (fun hHeld => ?_)
          clear hK K
          refine wpAnyH_ready (rs := [27]) (by kernel_rfl) (by simp) ?_
          refine AllReadyH.cons rfl (fun K hK => ?_) AllReadyH.nil
          rw [if_pos (by kernel_rfl)]
          go_simp
          refine (muladd_q X Y (mulq X Z 0) HXL.out HYL.out (mulq_lt _ _ _) _ (HP.out.below hHeld).q).mono ?_
          rintro e w_3_4_c10 ⟨rfl, hbw_3_4_c10⟩
          have haw_3_4_c10_3 := haw_3_4_c9_3.below hbw_3_4_c10
          have haw_3_4_c10_8 := haw_3_4_c9_8.below hbw_3_4_c10
          have haw_3_4_c10_10 := haw_3_4_c9_10.below hbw_3_4_c10
          have haw_3_4_c10_17 := haw_3_4_c9_17.below hbw_3_4_c10
          refine hK.out _ _ (hHeld.trans (hbw_3_4_c10.mono hHeld.size)) (fun hHeld => ?_)
          clear hK K
          refine wpAnyH_take (i := 28) (v := .bool false) rfl (by kernel_rfl) (by kernel_rfl) (by kernel_rfl) (fun _ _ _ h => h) (yieldsIf_binop (by rfl) .neq 23 23 (.tmp 60) (.tmp 67) rfl (.agg (By (mulq X (sumq [Y, Z]) 0) 32).toArray) (.agg (By (mulq X Y (mulq X Z 0)) 32).toArray) (.bool false) rfl rfl (bgrd _ _ _ _ _) (bne_same (r4 _ _ _))) hHeld ?_
          change wpAnyH _ _ _ _ _ _ _ (Act.put _ (some 68) _) _
          simp only [Act.put, List.setIfInBounds_toArray, List.set_cons_zero, List.set_cons_succ]
          refine wpAnyH_take (i := 29) (v := ?_) rfl (by kernel_rfl) (by kernel_rfl) (by kernel_rfl) (fun _ _ _ h => h) (Or.inl ⟨by rfl, ?_⟩) hHeld ?_
          rotate_left
          · (intro w' hSw; go_simp; try (with_reducible rfl))
          change wpAnyH _ _ _ _ _ _ _ (Act.put _ (some 69) _) _
          simp only [Act.put, List.setIfInBounds_toArray, List.set_cons_zero, List.set_cons_succ]
          refine wpAnyH_done (by kernel_rfl) ?_ _
          go_step
          go_step
          go_meet
          exact ⟨rfl, hHeld⟩
        · rw [if_pos (by kernel_rfl)]
          refine wp_buildArrs 2 #[(0, .tmp 46), (1, .tmp 47)] rfl [Y, X] rfl (by decide) (by decide) rfl ?_
          have ha_3_8_b1 := ArrB.new2 (W.drew.alloc (.cells (side [X, Y, Z]).toArray 23)) [Y, X] 23 (W.heap.size + 1) (by simp)
          have ha_3_8_b1_3 := ha_3_b0.alloc (.cells (side [Y, X]).toArray 23)
          refine hK.out _ _ (hHeld.alloc hHeld.size _) (fun hHeld => ?_)
          clear hK K
          refine wpAnyH_ready (rs := [4]) (by kernel_rfl) (by simp) ?_
          refine AllReadyH.cons rfl (fun K hK => ?_) AllReadyH.nil
          rw [if_pos (by kernel_rfl)]
          go_simp
          refine (sum_q [X, Y, Z] (W.heap.size) 0 3 3 _ rfl (all3 HXL.out HYL.out HZL.out) (by decide) ha_3_8_b1_3.1 ha_3_8_b1_3.2 (HP.out.below hHeld).q).mono ?_
          rintro e w_3_8_c2 ⟨rfl, hbw_3_8_c2⟩
          have haw_3_8_c2_3 := ha_3_8_b1_3.below hbw_3_8_c2
          have haw_3_8_c2_8 := ha_3_8_b1.below hbw_3_8_c2
          refine hK.out _ _ (hHeld.trans (hbw_3_8_c2.mono hHeld.size)) (fun hHeld => ?_)
          clear hK K
          refine wpAnyH_ready (rs := [9]) (by kernel_rfl) (by simp) ?_
          refine AllReadyH.cons rfl (fun K hK => ?_) AllReadyH.nil
          rw [if_pos (by kernel_rfl)]
          go_simp
          refine (sum_q [Y, X] (W.heap.size + 1) 0 2 2 _ rfl (all2 HYL.out HXL.out) (by decide) haw_3_8_c2_8.1 haw_3_8_c2_8.2 (HP.out.below hHeld).q).mono ?_
          rintro e w_3_8_c3 ⟨rfl, hbw_3_8_c3⟩
          have haw_3_8_c3_3 := haw_3_8_c2_3.below hbw_3_8_c3
          have haw_3_8_c3_8 := haw_3_8_c2_8.below hbw_3_8_c3
          refine hK.out _ _ (hHeld.trans (hbw_3_8_c3.mono hHeld.size)) (fun hHeld => ?_)
          clear hK K
          refine wpAnyH_ready (rs := [10]) (by kernel_rfl) (by simp) ?_
          refine AllReadyH.cons rfl (fun K hK => ?_) AllReadyH.nil
          rw [if_pos (by kernel_rfl)]
          refine wp_buildArrs 2 #[(0, .tmp 45), (1, .tmp 49)] rfl [Z, (sumq [Y, X])] rfl (by decide) (by decide) rfl ?_
          have ha_3_8_b4 := ArrB.new2 w_3_8_c3 [Z, (sumq [Y, X])] 23 (w_3_8_c3.heap.size) (by simp)
          have ha_3_8_b4_3 := haw_3_8_c3_3.alloc (.cells (side [Z, (sumq [Y, X])]).toArray 23)
          have ha_3_8_b4_8 := haw_3_8_c3_8.alloc (.cells (side [Z, (sumq [Y, X])]).toArray 23)
          refine hK.out _ _ (hHeld.alloc hHeld.size _) (fun hHeld => ?_)
          clear hK K
          refine wpAnyH_ready (rs := [11]) (by kernel_rfl) (by simp) ?_
          refine AllReadyH.cons rfl (fun K hK => ?_) AllReadyH.nil
          rw [if_pos (by kernel_rfl)]
          go_simp
          refine (sum_q [Z, (sumq [Y, X])] (w_3_8_c3.heap.size) 0 2 2 _ rfl (all2 HZL.out (sumq_lt _)) (by decide) ha_3_8_b4.1 ha_3_8_b4.2 (HP.out.below hHeld).q).mono ?_
          rintro e w_3_8_c5 ⟨rfl, hbw_3_8_c5⟩
          have haw_3_8_c5_3 := ha_3_8_b4_3.below hbw_3_8_c5
          have haw_3_8_c5_8 := ha_3_8_b4_8.below hbw_3_8_c5
          have haw_3_8_c5_10 := ha_3_8_b4.below hbw_3_8_c5
          refine hK.out _ _ (hHeld.trans (hbw_3_8_c5.mono hHeld.size)) (fun hHeld => ?_)
          clear hK K
          refine wpAnyH_take (i := 12) (v := .bool false) rfl (by kernel_rfl) (by kernel_rfl) (by kernel_rfl) (fun _ _ _ h => h) (yieldsIf_binop (by rfl) .neq 23 23 (.tmp 44) (.tmp 51) rfl (.agg (By (sumq [X, Y, Z]) 32).toArray) (.agg (By (sumq [Z, (sumq [Y, X])]) 32).toArray) (.bool false) rfl rfl (bgrd _ _ _ _ _) (bne_same (r3 _ _ _))) hHeld ?_
          change wpAnyH _ _ _ _ _ _ _ (Act.put _ (some 52) _) _
          simp only [Act.put, List.setIfInBounds_toArray, List.set_cons_zero, List.set_cons_succ]
          refine wpAnyH_take (i := 13) (v := ?_) rfl (by kernel_rfl) (by kernel_rfl) (by kernel_rfl) (fun _ _ _ h => h) (Or.inl ⟨by rfl, ?_⟩) hHeld ?_
          rotate_left
          · (intro w' hSw; go_simp; try (with_reducible rfl))
          change wpAnyH _ _ _ _ _ _ _ (Act.put _ (some 53) _) _
          simp only [Act.put, List.setIfInBounds_toArray, List.set_cons_zero, List.set_cons_succ]
          refine wpAnyH_take (i := 14) (v := .agg (By X 32).toArray) rfl (by kernel_rfl) (by kernel_rfl) (by kernel_rfl) (fun _ _ _ h => h) (yieldsIf_load_mid (by rfl) 23 (.tmp 3) rfl w.heap.size 0 rfl (By X 32) _ (fun w' hSw => (HP.out.below hSw).a.range) (by rfl) rfl (HL8.out _)) hHeld ?_
          change wpAnyH _ _ _ _ _ _ _ (Act.put _ (some 54) _) _
          simp only [Act.put, List.setIfInBounds_toArray, List.set_cons_zero, List.set_cons_succ]
          refine wpAnyH_take (i := 15) (v := .agg (By Y 32).toArray) rfl (by kernel_rfl) (by kernel_rfl) (by kernel_rfl) (fun _ _ _ h => h) (yieldsIf_load_mid (by rfl) 23 (.tmp 4) rfl (w.heap.size + 1) 0 rfl (By Y 32) _ (fun w' hSw => (HP.out.below hSw).b.range) (by rfl) rfl (HL8.out _)) hHeld ?_
          change wpAnyH _ _ _ _ _ _ _ (Act.put _ (some 55) _) _
          simp only [Act.put, List.setIfInBounds_toArray, List.set_cons_zero, List.set_cons_succ]
          refine wpAnyH_take (i := 16) (v := .agg (By Z 32).toArray) rfl (by kernel_rfl) (by kernel_rfl) (by kernel_rfl) (fun _ _ _ h => h) (yieldsIf_load_mid (by rfl) 23 (.tmp 5) rfl (w.heap.size + 1 + 1) 0 rfl (By Z 32) _ (fun w' hSw => (HP.out.below hSw).c.range) (by rfl) rfl (HL8.out _)) hHeld ?_
          change wpAnyH _ _ _ _ _ _ _ (Act.put _ (some 56) _) _
          simp only [Act.put, List.setIfInBounds_toArray, List.set_cons_zero, List.set_cons_succ]
          refine wpAnyH_take (i := 19) (v := .agg (By 0 32).toArray) rfl (by kernel_rfl) (by kernel_rfl) (by kernel_rfl) (fun _ _ _ h => h) (yieldsIf_load_mid (by rfl) 23 (.tmp 7) rfl (w.heap.size + 1 + 1 + 1) 0 rfl (By 0 32) _ (fun w' hSw => (HP.out.below hSw).z.range) (by rfl) rfl (HL8.out _)) hHeld ?_
          change wpAnyH _ _ _ _ _ _ _ (Act.put _ (some 59) _) _
          simp only [Act.put, List.setIfInBounds_toArray, List.set_cons_zero, List.set_cons_succ]
          refine wpAnyH_take (i := 21) (v := .agg (By X 32).toArray) rfl (by kernel_rfl) (by kernel_rfl) (by kernel_rfl) (fun _ _ _ h => h) (yieldsIf_load_mid (by rfl) 23 (.tmp 3) rfl w.heap.size 0 rfl (By X 32) _ (fun w' hSw => (HP.out.below hSw).a.range) (by rfl) rfl (HL8.out _)) hHeld ?_
          change wpAnyH _ _ _ _ _ _ _ (Act.put _ (some 61) _) _
          simp only [Act.put, List.setIfInBounds_toArray, List.set_cons_zero, List.set_cons_succ]
          refine wpAnyH_take (i := 22) (v := .agg (By Y 32).toArray) rfl (by kernel_rfl) (by kernel_rfl) (by kernel_rfl) (fun _ _ _ h => h) (yieldsIf_load_mid (by rfl) 23 (.tmp 4) rfl (w.heap.size + 1) 0 rfl (By Y 32) _ (fun w' hSw => (HP.out.below hSw).b.range) (by rfl) rfl (HL8.out _)) hHeld ?_
          change wpAnyH _ _ _ _ _ _ _ (Act.put _ (some 62) _) _
          simp only [Act.put, List.setIfInBounds_toArray, List.set_cons_zero, List.set_cons_succ]
          refine wpAnyH_take (i := 23) (v := .agg (By X 32).toArray) rfl (by kernel_rfl) (by kernel_rfl) (by kernel_rfl) (fun _ _ _ h => h) (yieldsIf_load_mid (by rfl) 23 (.tmp 3) rfl w.heap.size 0 rfl (By X 32) _ (fun w' hSw => (HP.out.below hSw).a.range) (by rfl) rfl (HL8.out _)) hHeld ?_
          change wpAnyH _ _ _ _ _ _ _ (Act.put _ (some 63) _) _
          simp only [Act.put, List.setIfInBounds_toArray, List.set_cons_zero, List.set_cons_succ]
          refine wpAnyH_take (i := 24) (v := .agg (By Z 32).toArray) rfl (by kernel_rfl) (by kernel_rfl) (by kernel_rfl) (fun _ _ _ h => h) (yieldsIf_load_mid (by rfl) 23 (.tmp 5) rfl (w.heap.size + 1 + 1) 0 rfl (By Z 32) _ (fun w' hSw => (HP.out.below hSw).c.range) (by rfl) rfl (HL8.out _)) hHeld ?_
          change wpAnyH _ _ _ _ _ _ _ (Act.put _ (some 64) _) _
          simp only [Act.put, List.setIfInBounds_toArray, List.set_cons_zero, List.set_cons_succ]
          refine wpAnyH_take (i := 25) (v := .agg (By 0 32).toArray) rfl (by kernel_rfl) (by kernel_rfl) (by kernel_rfl) (fun _ _ _ h => h) (yieldsIf_load_mid (by rfl) 23 (.tmp 7) rfl (w.heap.size + 1 + 1 + 1) 0 rfl (By 0 32) _ (fun w' hSw => (HP.out.below hSw).z.range) (by rfl) rfl (HL8.out _)) hHeld ?_
          change wpAnyH _ _ _ _ _ _ _ (Act.put _ (some 65) _) _
          simp only [Act.put, List.setIfInBounds_toArray, List.set_cons_zero, List.set_cons_succ]
          refine wpAnyH_ready (rs := [17]) (by kernel_rfl) (by simp) ?_
          refine AllReadyH.cons rfl (fun K hK => ?_) AllReadyH.nil
          rw [if_pos (by kernel_rfl)]
          refine wp_buildArrs 2 #[(0, .tmp 55), (1, .tmp 56)] rfl [Y, Z] rfl (by decide) (by decide) rfl ?_
          have ha_3_8_b6 := ArrB.new2 w_3_8_c5 [Y, Z] 23 (w_3_8_c5.heap.size) (by simp)
          have ha_3_8_b6_3 := haw_3_8_c5_3.alloc (.cells (side [Y, Z]).toArray 23)
          have ha_3_8_b6_8 := haw_3_8_c5_8.alloc (.cells (side [Y, Z]).toArray 23)
          have ha_3_8_b6_10 := haw_3_8_c5_10.alloc (.cells (side [Y, Z]).toArray 23)
          refine hK.out _ _ (hHeld.alloc hHeld.size _) (fun hHeld => ?_)
          clear hK K
          refine wpAnyH_ready (rs := [18]) (by kernel_rfl) (by simp) ?_
          refine AllReadyH.cons rfl (fun K hK => ?_) AllReadyH.nil
          rw [if_pos (by kernel_rfl)]
          go_simp
          refine (sum_q [Y, Z] (w_3_8_c5.heap.size) 0 2 2 _ rfl (all2 HYL.out HZL.out) (by decide) ha_3_8_b6.1 ha_3_8_b6.2 (HP.out.below hHeld).q).mono ?_
          rintro e w_3_8_c7 ⟨rfl, hbw_3_8_c7⟩
          have haw_3_8_c7_3 := ha_3_8_b6_3.below hbw_3_8_c7
          have haw_3_8_c7_8 := ha_3_8_b6_8.below hbw_3_8_c7
          have haw_3_8_c7_10 := ha_3_8_b6_10.below hbw_3_8_c7
          have haw_3_8_c7_17 := ha_3_8_b6.below hbw_3_8_c7
          refine hK.out _ _ (hHeld.trans (hbw_3_8_c7.mono hHeld.size)) (fun hHeld => ?_)
          clear hK K
          refine wpAnyH_ready (rs := [20]) (by kernel_rfl) (by simp) ?_
          refine AllReadyH.cons rfl (fun K hK => ?_) AllReadyH.nil
          rw [if_pos (by kernel_rfl)]
          go_simp
          refine (muladd_q X (sumq [Y, Z]) 0 HXL.out (sumq_lt _) (n_lt (by decide)) _ (HP.out.below hHeld).q).mono ?_
          rintro e w_3_8_c8 ⟨rfl, hbw_3_8_c8⟩
          have haw_3_8_c8_3 := haw_3_8_c7_3.below hbw_3_8_c8
          have haw_3_8_c8_8 := haw_3_8_c7_8.below hbw_3_8_c8
          have haw_3_8_c8_10 := haw_3_8_c7_10.below hbw_3_8_c8
          have haw_3_8_c8_17 := haw_3_8_c7_17.below hbw_3_8_c8
          refine hK.out _ _ (hHeld.trans (hbw_3_8_c8.mono hHeld.size)) (fun hHeld => ?_)
          clear hK K
          refine wpAnyH_ready (rs := [26]) (by kernel_rfl) (by simp) ?_
          refine AllReadyH.cons rfl (fun K hK => ?_) AllReadyH.nil
          rw [if_pos (by kernel_rfl)]
          go_simp
          refine (muladd_q X Z 0 HXL.out HZL.out (n_lt (by decide)) _ (HP.out.below hHeld).q).mono ?_
          rintro e w_3_8_c9 ⟨rfl, hbw_3_8_c9⟩
          have haw_3_8_c9_3 := haw_3_8_c8_3.below hbw_3_8_c9
          have haw_3_8_c9_8 := haw_3_8_c8_8.below hbw_3_8_c9
          have haw_3_8_c9_10 := haw_3_8_c8_10.below hbw_3_8_c9
          have haw_3_8_c9_17 := haw_3_8_c8_17.below hbw_3_8_c9
          refine hK.out _ _ (hHeld.trans (hbw_3_8_c9.mono hHeld.size)) (fun hHeld => ?_)
          clear hK K
          refine wpAnyH_ready (rs := [27]) (by kernel_rfl) (by simp) ?_
          refine AllReadyH.cons rfl (fun K hK => ?_) AllReadyH.nil
          rw [if_pos (by kernel_rfl)]
          go_simp
          refine (muladd_q X Y (mulq X Z 0) HXL.out HYL.out (mulq_lt _ _ _) _ (HP.out.below hHeld).q).mono ?_
          rintro e w_3_8_c10 ⟨rfl, hbw_3_8_c10⟩
          have haw_3_8_c10_3 := haw_3_8_c9_3.below hbw_3_8_c10
          have haw_3_8_c10_8 := haw_3_8_c9_8.below hbw_3_8_c10
          have haw_3_8_c10_10 := haw_3_8_c9_10.below hbw_3_8_c10
          have haw_3_8_c10_17 := haw_3_8_c9_17.below hbw_3_8_c10
          refine hK.out _ _ (hHeld.trans (hbw_3_8_c10.mono hHeld.size)) (fun hHeld => ?_)
          clear hK K
          refine wpAnyH_take (i := 28) (v := .bool false) rfl (by kernel_rfl) (by kernel_rfl) (by kernel_rfl) (fun _ _ _ h => h) (yieldsIf_binop (by rfl) .neq 23 23 (.tmp 60) (.tmp 67) rfl (.agg (By (mulq X (sumq [Y, Z]) 0) 32).toArray) (.agg (By (mulq X Y (mulq X Z 0)) 32).toArray) (.bool false) rfl rfl (bgrd _ _ _ _ _) (bne_same (r4 _ _ _))) hHeld ?_
          change wpAnyH _ _ _ _ _ _ _ (Act.put _ (some 68) _) _
          simp only [Act.put, List.setIfInBounds_toArray, List.set_cons_zero, List.set_cons_succ]
          refine wpAnyH_take (i := 29) (v := ?_) rfl (by kernel_rfl) (by kernel_rfl) (by kernel_rfl) (fun _ _ _ h => h) (Or.inl ⟨by rfl, ?_⟩) hHeld ?_
          rotate_left
          · (intro w' hSw; go_simp; try (with_reducible rfl))
          change wpAnyH _ _ _ _ _ _ _ (Act.put _ (some 69) _) _
          simp only [Act.put, List.setIfInBounds_toArray, List.set_cons_zero, List.set_cons_succ]
          refine wpAnyH_done (by kernel_rfl) ?_ _
          go_step
          go_step
          go_meet
          exact ⟨rfl, hHeld⟩
      · rw [if_pos (by kernel_rfl)]
        refine wp_buildArrs 2 #[(0, .tmp 46), (1, .tmp 47)] rfl [Y, X] rfl (by decide) (by decide) rfl ?_
        have ha_8_b0 := ArrB.new2 W.drew [Y, X] 23 (W.heap.size) (by simp)
        refine hK.out _ _ (hHeld.alloc hHeld.size _) (fun hHeld => ?_)
        clear hK K
        refine wpAnyH_ready (rs := [3]) (by kernel_rfl) (by simp) ?_
        refine AllReadyH.cons rfl (fun K hK => ?_) AllReadyH.nil
        rw [if_pos (by kernel_rfl)]
        refine wp_buildArrs 3 #[(0, .tmp 40), (1, .tmp 41), (2, .tmp 42)] rfl [X, Y, Z] rfl (by decide) (by decide) rfl ?_
        have ha_8_b1 := ArrB.new2 (W.drew.alloc (.cells (side [Y, X]).toArray 23)) [X, Y, Z] 23 (W.heap.size + 1) (by simp)
        have ha_8_b1_8 := ha_8_b0.alloc (.cells (side [X, Y, Z]).toArray 23)
        refine hK.out _ _ (hHeld.alloc hHeld.size _) (fun hHeld => ?_)
        clear hK K
        refine wpAnyH_ready (rs := [4]) (by kernel_rfl) (by simp) ?_
        refine AllReadyH.cons rfl (fun K hK => ?_) AllReadyH.nil
        rw [if_pos (by kernel_rfl)]
        go_simp
        refine (sum_q [X, Y, Z] (W.heap.size + 1) 0 3 3 _ rfl (all3 HXL.out HYL.out HZL.out) (by decide) ha_8_b1.1 ha_8_b1.2 (HP.out.below hHeld).q).mono ?_
        rintro e w_8_c2 ⟨rfl, hbw_8_c2⟩
        have haw_8_c2_8 := ha_8_b1_8.below hbw_8_c2
        have haw_8_c2_3 := ha_8_b1.below hbw_8_c2
        refine hK.out _ _ (hHeld.trans (hbw_8_c2.mono hHeld.size)) (fun hHeld => ?_)
        clear hK K
        refine wpAnyH_ready (rs := [9]) (by kernel_rfl) (by simp) ?_
        refine AllReadyH.cons rfl (fun K hK => ?_) AllReadyH.nil
        rw [if_pos (by kernel_rfl)]
        go_simp
        refine (sum_q [Y, X] (W.heap.size) 0 2 2 _ rfl (all2 HYL.out HXL.out) (by decide) haw_8_c2_8.1 haw_8_c2_8.2 (HP.out.below hHeld).q).mono ?_
        rintro e w_8_c3 ⟨rfl, hbw_8_c3⟩
        have haw_8_c3_8 := haw_8_c2_8.below hbw_8_c3
        have haw_8_c3_3 := haw_8_c2_3.below hbw_8_c3
        refine hK.out _ _ (hHeld.trans (hbw_8_c3.mono hHeld.size)) (fun hHeld => ?_)
        clear hK K
        refine wpAnyH_ready (rs := [10]) (by kernel_rfl) (by simp) ?_
        refine AllReadyH.cons rfl (fun K hK => ?_) AllReadyH.nil
        rw [if_pos (by kernel_rfl)]
        refine wp_buildArrs 2 #[(0, .tmp 45), (1, .tmp 49)] rfl [Z, (sumq [Y, X])] rfl (by decide) (by decide) rfl ?_
        have ha_8_b4 := ArrB.new2 w_8_c3 [Z, (sumq [Y, X])] 23 (w_8_c3.heap.size) (by simp)
        have ha_8_b4_8 := haw_8_c3_8.alloc (.cells (side [Z, (sumq [Y, X])]).toArray 23)
        have ha_8_b4_3 := haw_8_c3_3.alloc (.cells (side [Z, (sumq [Y, X])]).toArray 23)
        refine hK.out _ _ (hHeld.alloc hHeld.size _) (fun hHeld => ?_)
        clear hK K
        refine wpAnyH_ready (rs := [11]) (by kernel_rfl) (by simp) ?_
        refine AllReadyH.cons rfl (fun K hK => ?_) AllReadyH.nil
        rw [if_pos (by kernel_rfl)]
        go_simp
        refine (sum_q [Z, (sumq [Y, X])] (w_8_c3.heap.size) 0 2 2 _ rfl (all2 HZL.out (sumq_lt _)) (by decide) ha_8_b4.1 ha_8_b4.2 (HP.out.below hHeld).q).mono ?_
        rintro e w_8_c5 ⟨rfl, hbw_8_c5⟩
        have haw_8_c5_8 := ha_8_b4_8.below hbw_8_c5
        have haw_8_c5_3 := ha_8_b4_3.below hbw_8_c5
        have haw_8_c5_10 := ha_8_b4.below hbw_8_c5
        refine hK.out _ _ (hHeld.trans (hbw_8_c5.mono hHeld.size)) (fun hHeld => ?_)
        clear hK K
        refine wpAnyH_take (i := 12) (v := .bool false) rfl (by kernel_rfl) (by kernel_rfl) (by kernel_rfl) (fun _ _ _ h => h) (yieldsIf_binop (by rfl) .neq 23 23 (.tmp 44) (.tmp 51) rfl (.agg (By (sumq [X, Y, Z]) 32).toArray) (.agg (By (sumq [Z, (sumq [Y, X])]) 32).toArray) (.bool false) rfl rfl (bgrd _ _ _ _ _) (bne_same (r3 _ _ _))) hHeld ?_
        change wpAnyH _ _ _ _ _ _ _ (Act.put _ (some 52) _) _
        simp only [Act.put, List.setIfInBounds_toArray, List.set_cons_zero, List.set_cons_succ]
        refine wpAnyH_take (i := 13) (v := ?_) rfl (by kernel_rfl) (by kernel_rfl) (by kernel_rfl) (fun _ _ _ h => h) (Or.inl ⟨by rfl, ?_⟩) hHeld ?_
        rotate_left
        · (intro w' hSw; go_simp; try (with_reducible rfl))
        change wpAnyH _ _ _ _ _ _ _ (Act.put _ (some 53) _) _
        simp only [Act.put, List.setIfInBounds_toArray, List.set_cons_zero, List.set_cons_succ]
        refine wpAnyH_take (i := 14) (v := .agg (By X 32).toArray) rfl (by kernel_rfl) (by kernel_rfl) (by kernel_rfl) (fun _ _ _ h => h) (yieldsIf_load_mid (by rfl) 23 (.tmp 3) rfl w.heap.size 0 rfl (By X 32) _ (fun w' hSw => (HP.out.below hSw).a.range) (by rfl) rfl (HL8.out _)) hHeld ?_
        change wpAnyH _ _ _ _ _ _ _ (Act.put _ (some 54) _) _
        simp only [Act.put, List.setIfInBounds_toArray, List.set_cons_zero, List.set_cons_succ]
        refine wpAnyH_take (i := 15) (v := .agg (By Y 32).toArray) rfl (by kernel_rfl) (by kernel_rfl) (by kernel_rfl) (fun _ _ _ h => h) (yieldsIf_load_mid (by rfl) 23 (.tmp 4) rfl (w.heap.size + 1) 0 rfl (By Y 32) _ (fun w' hSw => (HP.out.below hSw).b.range) (by rfl) rfl (HL8.out _)) hHeld ?_
        change wpAnyH _ _ _ _ _ _ _ (Act.put _ (some 55) _) _
        simp only [Act.put, List.setIfInBounds_toArray, List.set_cons_zero, List.set_cons_succ]
        refine wpAnyH_take (i := 16) (v := .agg (By Z 32).toArray) rfl (by kernel_rfl) (by kernel_rfl) (by kernel_rfl) (fun _ _ _ h => h) (yieldsIf_load_mid (by rfl) 23 (.tmp 5) rfl (w.heap.size + 1 + 1) 0 rfl (By Z 32) _ (fun w' hSw => (HP.out.below hSw).c.range) (by rfl) rfl (HL8.out _)) hHeld ?_
        change wpAnyH _ _ _ _ _ _ _ (Act.put _ (some 56) _) _
        simp only [Act.put, List.setIfInBounds_toArray, List.set_cons_zero, List.set_cons_succ]
        refine wpAnyH_take (i := 19) (v := .agg (By 0 32).toArray) rfl (by kernel_rfl) (by kernel_rfl) (by kernel_rfl) (fun _ _ _ h => h) (yieldsIf_load_mid (by rfl) 23 (.tmp 7) rfl (w.heap.size + 1 + 1 + 1) 0 rfl (By 0 32) _ (fun w' hSw => (HP.out.below hSw).z.range) (by rfl) rfl (HL8.out _)) hHeld ?_
        change wpAnyH _ _ _ _ _ _ _ (Act.put _ (some 59) _) _
        simp only [Act.put, List.setIfInBounds_toArray, List.set_cons_zero, List.set_cons_succ]
        refine wpAnyH_take (i := 21) (v := .agg (By X 32).toArray) rfl (by kernel_rfl) (by kernel_rfl) (by kernel_rfl) (fun _ _ _ h => h) (yieldsIf_load_mid (by rfl) 23 (.tmp 3) rfl w.heap.size 0 rfl (By X 32) _ (fun w' hSw => (HP.out.below hSw).a.range) (by rfl) rfl (HL8.out _)) hHeld ?_
        change wpAnyH _ _ _ _ _ _ _ (Act.put _ (some 61) _) _
        simp only [Act.put, List.setIfInBounds_toArray, List.set_cons_zero, List.set_cons_succ]
        refine wpAnyH_take (i := 22) (v := .agg (By Y 32).toArray) rfl (by kernel_rfl) (by kernel_rfl) (by kernel_rfl) (fun _ _ _ h => h) (yieldsIf_load_mid (by rfl) 23 (.tmp 4) rfl (w.heap.size + 1) 0 rfl (By Y 32) _ (fun w' hSw => (HP.out.below hSw).b.range) (by rfl) rfl (HL8.out _)) hHeld ?_
        change wpAnyH _ _ _ _ _ _ _ (Act.put _ (some 62) _) _
        simp only [Act.put, List.setIfInBounds_toArray, List.set_cons_zero, List.set_cons_succ]
        refine wpAnyH_take (i := 23) (v := .agg (By X 32).toArray) rfl (by kernel_rfl) (by kernel_rfl) (by kernel_rfl) (fun _ _ _ h => h) (yieldsIf_load_mid (by rfl) 23 (.tmp 3) rfl w.heap.size 0 rfl (By X 32) _ (fun w' hSw => (HP.out.below hSw).a.range) (by rfl) rfl (HL8.out _)) hHeld ?_
        change wpAnyH _ _ _ _ _ _ _ (Act.put _ (some 63) _) _
        simp only [Act.put, List.setIfInBounds_toArray, List.set_cons_zero, List.set_cons_succ]
        refine wpAnyH_take (i := 24) (v := .agg (By Z 32).toArray) rfl (by kernel_rfl) (by kernel_rfl) (by kernel_rfl) (fun _ _ _ h => h) (yieldsIf_load_mid (by rfl) 23 (.tmp 5) rfl (w.heap.size + 1 + 1) 0 rfl (By Z 32) _ (fun w' hSw => (HP.out.below hSw).c.range) (by rfl) rfl (HL8.out _)) hHeld ?_
        change wpAnyH _ _ _ _ _ _ _ (Act.put _ (some 64) _) _
        simp only [Act.put, List.setIfInBounds_toArray, List.set_cons_zero, List.set_cons_succ]
        refine wpAnyH_take (i := 25) (v := .agg (By 0 32).toArray) rfl (by kernel_rfl) (by kernel_rfl) (by kernel_rfl) (fun _ _ _ h => h) (yieldsIf_load_mid (by rfl) 23 (.tmp 7) rfl (w.heap.size + 1 + 1 + 1) 0 rfl (By 0 32) _ (fun w' hSw => (HP.out.below hSw).z.range) (by rfl) rfl (HL8.out _)) hHeld ?_
        change wpAnyH _ _ _ _ _ _ _ (Act.put _ (some 65) _) _
        simp only [Act.put, List.setIfInBounds_toArray, List.set_cons_zero, List.set_cons_succ]
        refine wpAnyH_ready (rs := [17]) (by kernel_rfl) (by simp) ?_
        refine AllReadyH.cons rfl (fun K hK => ?_) AllReadyH.nil
        rw [if_pos (by kernel_rfl)]
        refine wp_buildArrs 2 #[(0, .tmp 55), (1, .tmp 56)] rfl [Y, Z] rfl (by decide) (by decide) rfl ?_
        have ha_8_b6 := ArrB.new2 w_8_c5 [Y, Z] 23 (w_8_c5.heap.size) (by simp)
        have ha_8_b6_8 := haw_8_c5_8.alloc (.cells (side [Y, Z]).toArray 23)
        have ha_8_b6_3 := haw_8_c5_3.alloc (.cells (side [Y, Z]).toArray 23)
        have ha_8_b6_10 := haw_8_c5_10.alloc (.cells (side [Y, Z]).toArray 23)
        refine hK.out _ _ (hHeld.alloc hHeld.size _) (fun hHeld => ?_)
        clear hK K
        refine wpAnyH_ready (rs := [18]) (by kernel_rfl) (by simp) ?_
        refine AllReadyH.cons rfl (fun K hK => ?_) AllReadyH.nil
        rw [if_pos (by kernel_rfl)]
        go_simp
        refine (sum_q [Y, Z] (w_8_c5.heap.size) 0 2 2 _ rfl (all2 HYL.out HZL.out) (by decide) ha_8_b6.1 ha_8_b6.2 (HP.out.below hHeld).q).mono ?_
        rintro e w_8_c7 ⟨rfl, hbw_8_c7⟩
        have haw_8_c7_8 := ha_8_b6_8.below hbw_8_c7
        have haw_8_c7_3 := ha_8_b6_3.below hbw_8_c7
        have haw_8_c7_10 := ha_8_b6_10.below hbw_8_c7
        have haw_8_c7_17 := ha_8_b6.below hbw_8_c7
        refine hK.out _ _ (hHeld.trans (hbw_8_c7.mono hHeld.size)) (fun hHeld => ?_)
        clear hK K
        refine wpAnyH_ready (rs := [20]) (by kernel_rfl) (by simp) ?_
        refine AllReadyH.cons rfl (fun K hK => ?_) AllReadyH.nil
        rw [if_pos (by kernel_rfl)]
        go_simp
        refine (muladd_q X (sumq [Y, Z]) 0 HXL.out (sumq_lt _) (n_lt (by decide)) _ (HP.out.below hHeld).q).mono ?_
        rintro e w_8_c8 ⟨rfl, hbw_8_c8⟩
        have haw_8_c8_8 := haw_8_c7_8.below hbw_8_c8
        have haw_8_c8_3 := haw_8_c7_3.below hbw_8_c8
        have haw_8_c8_10 := haw_8_c7_10.below hbw_8_c8
        have haw_8_c8_17 := haw_8_c7_17.below hbw_8_c8
        refine hK.out _ _ (hHeld.trans (hbw_8_c8.mono hHeld.size)) (fun hHeld => ?_)
        clear hK K
        refine wpAnyH_ready (rs := [26]) (by kernel_rfl) (by simp) ?_
        refine AllReadyH.cons rfl (fun K hK => ?_) AllReadyH.nil
        rw [if_pos (by kernel_rfl)]
        go_simp
        refine (muladd_q X Z 0 HXL.out HZL.out (n_lt (by decide)) _ (HP.out.below hHeld).q).mono ?_
        rintro e w_8_c9 ⟨rfl, hbw_8_c9⟩
        have haw_8_c9_8 := haw_8_c8_8.below hbw_8_c9
        have haw_8_c9_3 := haw_8_c8_3.below hbw_8_c9
        have haw_8_c9_10 := haw_8_c8_10.below hbw_8_c9
        have haw_8_c9_17 := haw_8_c8_17.below hbw_8_c9
        refine hK.out _ _ (hHeld.trans (hbw_8_c9.mono hHeld.size)) (fun hHeld => ?_)
        clear hK K
        refine wpAnyH_ready (rs := [27]) (by kernel_rfl) (by simp) ?_
        refine AllReadyH.cons rfl (fun K hK => ?_) AllReadyH.nil
        rw [if_pos (by kernel_rfl)]
        go_simp
        refine (muladd_q X Y (mulq X Z 0) HXL.out HYL.out (mulq_lt _ _ _) _ (HP.out.below hHeld).q).mono ?_
        rintro e w_8_c10 ⟨rfl, hbw_8_c10⟩
        have haw_8_c10_8 := haw_8_c9_8.below hbw_8_c10
        have haw_8_c10_3 := haw_8_c9_3.below hbw_8_c10
        have haw_8_c10_10 := haw_8_c9_10.below hbw_8_c10
        have haw_8_c10_17 := haw_8_c9_17.below hbw_8_c10
        refine hK.out _ _ (hHeld.trans (hbw_8_c10.mono hHeld.size)) (fun hHeld => ?_)
        clear hK K
        refine wpAnyH_take (i := 28) (v := .bool false) rfl (by kernel_rfl) (by kernel_rfl) (by kernel_rfl) (fun _ _ _ h => h) (yieldsIf_binop (by rfl) .neq 23 23 (.tmp 60) (.tmp 67) rfl (.agg (By (mulq X (sumq [Y, Z]) 0) 32).toArray) (.agg (By (mulq X Y (mulq X Z 0)) 32).toArray) (.bool false) rfl rfl (bgrd _ _ _ _ _) (bne_same (r4 _ _ _))) hHeld ?_
        change wpAnyH _ _ _ _ _ _ _ (Act.put _ (some 68) _) _
        simp only [Act.put, List.setIfInBounds_toArray, List.set_cons_zero, List.set_cons_succ]
        refine wpAnyH_take (i := 29) (v := ?_) rfl (by kernel_rfl) (by kernel_rfl) (by kernel_rfl) (fun _ _ _ h => h) (Or.inl ⟨by rfl, ?_⟩) hHeld ?_
        rotate_left
        · (intro w' hSw; go_simp; try (with_reducible rfl))
        change wpAnyH _ _ _ _ _ _ _ (Act.put _ (some 69) _) _
        simp only [Act.put, List.setIfInBounds_toArray, List.set_cons_zero, List.set_cons_succ]
        refine wpAnyH_done (by kernel_rfl) ?_ _
        go_step
        go_step
        go_meet
        exact ⟨rfl, hHeld⟩
    case rest =>
      obtain ⟨rfl, hb6⟩ := hcut
      have hp6 := HP.out.below hb6
      have hbe6 := HBE4.out.trans (hb6.mono HBE4.out.size)
      clear HP
      have HP := Lib.hid hp6
      have HBE6 := Lib.hid hbe6
      clear hb6 hp6 hbe6 HBE4
      clear W
      obtain ⟨W, rfl⟩ : ∃ x, x = wc := ⟨_, rfl⟩
      go_upto_region 8 with fail
      refine wp_region_any (by kernel_rfl) ?_
      change wpAny _ _ _ _ _ _ _ (World.drew _)
      refine wpAny_of_held (S := (fun w' : World => Below W.heap.size W w')) _ _ _ _ ?_
      have hHeld := ((Below.refl W.heap.size W).drew)
      refine wpAnyH_take (i := 0) (v := .agg (By X 32).toArray) rfl (by kernel_rfl) (by kernel_rfl) (by kernel_rfl) (fun _ _ _ h => h) (yieldsIf_load_mid (by rfl) 23 (.tmp 3) rfl w.heap.size 0 rfl (By X 32) _ (fun w' hSw => (HP.out.below hSw).a.range) (by rfl) rfl (HL8.out _)) hHeld ?_
      change wpAnyH _ _ _ _ _ _ _ (Act.put _ (some 70) _) _
      simp only [Act.put, List.setIfInBounds_toArray, List.set_cons_zero, List.set_cons_succ]
      refine wpAnyH_take (i := 1) (v := .agg (By X 32).toArray) rfl (by kernel_rfl) (by kernel_rfl) (by kernel_rfl) (fun _ _ _ h => h) (yieldsIf_load_mid (by rfl) 23 (.tmp 3) rfl w.heap.size 0 rfl (By X 32) _ (fun w' hSw => (HP.out.below hSw).a.range) (by rfl) rfl (HL8.out _)) hHeld ?_
      change wpAnyH _ _ _ _ _ _ _ (Act.put _ (some 71) _) _
      simp only [Act.put, List.setIfInBounds_toArray, List.set_cons_zero, List.set_cons_succ]
      refine wpAnyH_take (i := 5) (v := .agg (By 0 32).toArray) rfl (by kernel_rfl) (by kernel_rfl) (by kernel_rfl) (fun _ _ _ h => h) (yieldsIf_load_mid (by rfl) 23 (.tmp 7) rfl (w.heap.size + 1 + 1 + 1) 0 rfl (By 0 32) _ (fun w' hSw => (HP.out.below hSw).z.range) (by rfl) rfl (HL8.out _)) hHeld ?_
      change wpAnyH _ _ _ _ _ _ _ (Act.put _ (some 75) _) _
      simp only [Act.put, List.setIfInBounds_toArray, List.set_cons_zero, List.set_cons_succ]
      refine wpAnyH_ready (rs := [2]) (by kernel_rfl) (by simp) ?_
      refine AllReadyH.cons rfl (fun K hK => ?_) AllReadyH.nil
      rw [if_pos (by kernel_rfl)]
      go_simp
      refine (neg_q X HXL.out _ (HP.out.below hHeld).q).mono ?_
      rintro e w_c0 ⟨rfl, hbw_c0⟩
      refine hK.out _ _ (hHeld.trans (hbw_c0.mono hHeld.size)) (fun hHeld => ?_)
      clear hK K
      refine wpAnyH_ready (rs := [3]) (by kernel_rfl) (by simp) ?_
      refine AllReadyH.cons rfl (fun K hK => ?_) AllReadyH.nil
      rw [if_pos (by kernel_rfl)]
      refine wp_buildArrs 2 #[(0, .tmp 70), (1, .tmp 72)] rfl [X, (negq X)] rfl (by decide) (by decide) rfl ?_
      have ha_b1 := ArrB.new2 w_c0 [X, (negq X)] 23 (w_c0.heap.size) (by simp)
      refine hK.out _ _ (hHeld.alloc hHeld.size _) (fun hHeld => ?_)
      clear hK K
      refine wpAnyH_ready (rs := [4]) (by kernel_rfl) (by simp) ?_
      refine AllReadyH.cons rfl (fun K hK => ?_) AllReadyH.nil
      rw [if_pos (by kernel_rfl)]
      go_simp
      refine (sum_q [X, (negq X)] (w_c0.heap.size) 0 2 2 _ rfl (all2 HXL.out (negq_lt _)) (by decide) ha_b1.1 ha_b1.2 (HP.out.below hHeld).q).mono ?_
      rintro e w_c2 ⟨rfl, hbw_c2⟩
      have haw_c2_3 := ha_b1.below hbw_c2
      refine hK.out _ _ (hHeld.trans (hbw_c2.mono hHeld.size)) (fun hHeld => ?_)
      clear hK K
      refine wpAnyH_take (i := 6) (v := .bool true) rfl (by kernel_rfl) (by kernel_rfl) (by kernel_rfl) (fun _ _ _ h => h) (yieldsIf_binop (by rfl) .eql 23 23 (.tmp 74) (.tmp 75) rfl (.agg (By (sumq [X, (negq X)]) 32).toArray) (.agg (By 0 32).toArray) (.bool true) rfl rfl (bgrd _ _ _ _ _) (beq_same (r5 _))) hHeld ?_
      change wpAnyH _ _ _ _ _ _ _ (Act.put _ (some 76) _) _
      simp only [Act.put, List.setIfInBounds_toArray, List.set_cons_zero, List.set_cons_succ]
      refine wpAnyH_take (i := 7) (v := ?_) rfl (by kernel_rfl) (by kernel_rfl) (by kernel_rfl) (fun _ _ _ h => h) (Or.inl ⟨by rfl, ?_⟩) hHeld ?_
      rotate_left
      · (intro w' hSw; go_simp; try (with_reducible rfl))
      change wpAnyH _ _ _ _ _ _ _ (Act.put _ (some 77) _) _
      simp only [Act.put, List.setIfInBounds_toArray, List.set_cons_zero, List.set_cons_succ]
      refine wpAnyH_take (i := 8) (v := .agg (By X 32).toArray) rfl (by kernel_rfl) (by kernel_rfl) (by kernel_rfl) (fun _ _ _ h => h) (yieldsIf_load_mid (by rfl) 23 (.tmp 3) rfl w.heap.size 0 rfl (By X 32) _ (fun w' hSw => (HP.out.below hSw).a.range) (by rfl) rfl (HL8.out _)) hHeld ?_
      change wpAnyH _ _ _ _ _ _ _ (Act.put _ (some 78) _) _
      simp only [Act.put, List.setIfInBounds_toArray, List.set_cons_zero, List.set_cons_succ]
      refine wpAnyH_take (i := 11) (v := .agg (By 1 32).toArray) rfl (by kernel_rfl) (by kernel_rfl) (by kernel_rfl) (fun _ _ _ h => h) (yieldsIf_load_mid (by rfl) 23 (.tmp 8) rfl (w.heap.size + 1 + 1 + 1 + 1) 0 rfl (By 1 32) _ (fun w' hSw => (HP.out.below hSw).o.range) (by rfl) rfl (HL8.out _)) hHeld ?_
      change wpAnyH _ _ _ _ _ _ _ (Act.put _ (some 81) _) _
      simp only [Act.put, List.setIfInBounds_toArray, List.set_cons_zero, List.set_cons_succ]
      refine wpAnyH_take (i := 12) (v := .agg (By X 32).toArray) rfl (by kernel_rfl) (by kernel_rfl) (by kernel_rfl) (fun _ _ _ h => h) (yieldsIf_load_mid (by rfl) 23 (.tmp 3) rfl w.heap.size 0 rfl (By X 32) _ (fun w' hSw => (HP.out.below hSw).a.range) (by rfl) rfl (HL8.out _)) hHeld ?_
      change wpAnyH _ _ _ _ _ _ _ (Act.put _ (some 82) _) _
      simp only [Act.put, List.setIfInBounds_toArray, List.set_cons_zero, List.set_cons_succ]
      refine wpAnyH_take (i := 13) (v := .agg (By 0 32).toArray) rfl (by kernel_rfl) (by kernel_rfl) (by kernel_rfl) (fun _ _ _ h => h) (yieldsIf_load_mid (by rfl) 23 (.tmp 7) rfl (w.heap.size + 1 + 1 + 1) 0 rfl (By 0 32) _ (fun w' hSw => (HP.out.below hSw).z.range) (by rfl) rfl (HL8.out _)) hHeld ?_
      change wpAnyH _ _ _ _ _ _ _ (Act.put _ (some 83) _) _
      simp only [Act.put, List.setIfInBounds_toArray, List.set_cons_zero, List.set_cons_succ]
      refine wpAnyH_ready (rs := [9]) (by kernel_rfl) (by simp) ?_
      refine AllReadyH.cons rfl (fun K hK => ?_) AllReadyH.nil
      rw [if_pos (by kernel_rfl)]
      go_simp
      refine (neg_q X HXL.out _ (HP.out.below hHeld).q).mono ?_
      rintro e w_c3 ⟨rfl, hbw_c3⟩
      have haw_c3_3 := haw_c2_3.below hbw_c3
      refine hK.out _ _ (hHeld.trans (hbw_c3.mono hHeld.size)) (fun hHeld => ?_)
      clear hK K
      refine wpAnyH_ready (rs := [10]) (by kernel_rfl) (by simp) ?_
      refine AllReadyH.cons rfl (fun K hK => ?_) AllReadyH.nil
      rw [if_pos (by kernel_rfl)]
      go_simp
      refine (neg_q (negq X) (negq_lt _) _ (HP.out.below hHeld).q).mono ?_
      rintro e w_c4 ⟨rfl, hbw_c4⟩
      have haw_c4_3 := haw_c3_3.below hbw_c4
      refine hK.out _ _ (hHeld.trans (hbw_c4.mono hHeld.size)) (fun hHeld => ?_)
      clear hK K
      refine wpAnyH_ready (rs := [14]) (by kernel_rfl) (by simp) ?_
      refine AllReadyH.cons rfl (fun K hK => ?_) AllReadyH.nil
      rw [if_pos (by kernel_rfl)]
      go_simp
      refine (muladd_q 1 X 0 (n_lt (by decide)) HXL.out (n_lt (by decide)) _ (HP.out.below hHeld).q).mono ?_
      rintro e w_c5 ⟨rfl, hbw_c5⟩
      have haw_c5_3 := haw_c4_3.below hbw_c5
      refine hK.out _ _ (hHeld.trans (hbw_c5.mono hHeld.size)) (fun hHeld => ?_)
      clear hK K
      refine wpAnyH_take (i := 15) (v := .bool true) rfl (by kernel_rfl) (by kernel_rfl) (by kernel_rfl) (fun _ _ _ h => h) (yieldsIf_binop (by rfl) .eql 23 23 (.tmp 80) (.tmp 84) rfl (.agg (By (negq (negq X)) 32).toArray) (.agg (By (mulq 1 X 0) 32).toArray) (.bool true) rfl rfl (bgrd _ _ _ _ _) (beq_same (r6 _))) hHeld ?_
      change wpAnyH _ _ _ _ _ _ _ (Act.put _ (some 85) _) _
      simp only [Act.put, List.setIfInBounds_toArray, List.set_cons_zero, List.set_cons_succ]
      refine wpAnyH_take (i := 16) (v := ?_) rfl (by kernel_rfl) (by kernel_rfl) (by kernel_rfl) (fun _ _ _ h => h) (Or.inl ⟨by rfl, ?_⟩) hHeld ?_
      rotate_left
      · (intro w' hSw; go_simp; try (with_reducible rfl))
      change wpAnyH _ _ _ _ _ _ _ (Act.put _ (some 86) _) _
      simp only [Act.put, List.setIfInBounds_toArray, List.set_cons_zero, List.set_cons_succ]
      refine wpAnyH_take (i := 17) (v := ?_) rfl (by kernel_rfl) (by kernel_rfl) (by kernel_rfl) (fun _ _ _ h => h) (Or.inl ⟨by rfl, ?_⟩) hHeld ?_
      rotate_left
      · (intro w' hSw; go_simp; try (with_reducible rfl))
      change wpAnyH _ _ _ _ _ _ _ (Act.put _ (some 87) _) _
      simp only [Act.put, List.setIfInBounds_toArray, List.set_cons_zero, List.set_cons_succ]
      refine wpAnyH_ready (rs := [18]) (by kernel_rfl) (by simp) ?_
      refine AllReadyH.cons rfl (fun K hK => ?_) AllReadyH.nil
      rw [if_pos (by kernel_rfl)]
      go_simp
      refine (awake_any _ (HP.out.below hHeld).q).mono ?_
      rintro e w_c6 ⟨rfl, hbw_c6⟩
      have haw_c6_3 := haw_c5_3.below hbw_c6
      refine hK.out _ _ (hHeld.trans (hbw_c6.mono hHeld.size)) (fun hHeld => ?_)
      clear hK K
      refine wpAnyH_take (i := 19) (v := ?_) rfl (by kernel_rfl) (by kernel_rfl) (by kernel_rfl) (fun _ _ _ h => h) (Or.inl ⟨by rfl, ?_⟩) hHeld ?_
      rotate_left
      · (intro w' hSw; go_simp; try (with_reducible rfl))
      change wpAnyH _ _ _ _ _ _ _ (Act.put _ (some 89) _) _
      simp only [Act.put, List.setIfInBounds_toArray, List.set_cons_zero, List.set_cons_succ]
      refine wpAnyH_take (i := 20) (v := ?_) rfl (by kernel_rfl) (by kernel_rfl) (by kernel_rfl) (fun _ _ _ h => h) (Or.inl ⟨by rfl, ?_⟩) hHeld ?_
      rotate_left
      · (intro w' hSw; go_simp; try (with_reducible rfl))
      change wpAnyH _ _ _ _ _ _ _ (Act.put _ (some 6) _) _
      simp only [Act.put, List.setIfInBounds_toArray, List.set_cons_zero, List.set_cons_succ]
      refine wpAnyH_done (by kernel_rfl) ?_ _
      have HF := Lib.hid hHeld
      clear hHeld
      go_wp2_with fail
      go_ret
      exact ⟨rfl, HBE6.out.trans (HF.out.mono HBE6.out.size)⟩
end Go.Proofs.YtklbcpaoccdmeaaDoor
