/- The document's MulAdd. -/
import Derived.Test.YtklbcpaoccdmeaaDoorRfF
import Derived.Laws.BitsAllLaws
import Derived.Deep.CutRange
import Derived.Deep.CutBlock
import Derived.RegionTactic
import Derived.Lib.Hide
import Derived.IntWalk
namespace Go.Proofs.YtklbcpaoccdmeaaDoor
set_option maxRecDepth 100000
open Go.RowKit

set_option linter.unusedSimpArgs false
theorem own_cells {w : World} {base g n c : Nat} {N : Nat} (h : w.ownsRow base 3 1 (.slice (some ⟨g, 0, none⟩) n c) n (Tabs .i64 (byt N) n)) : ∀ k, k < n → w.cell? ⟨g, k, none⟩ = some (.int .i64 ((byt N k : Nat) : Int)) := fun k hk => by
  rw [h.cellAt k (by omega), Tabs_get .i64 (byt N) n hk]
theorem rbytes_q (A B C L : Nat) (h64 : 64 ≤ L) (hL : L ≤ 1000) (a : Option Addr) (cap : Nat) (F : Nat → Prop) (w : World) (hr : Rd w F a L (Tabs .i64 (byt ((A * B + C) % qq)) L)) :
    Calls Tryd.prog 20 #[.slice a L cap] w fun e w' => e = .returned (.agg (By (mulq A B C) 32).toArray) ∧ Below w.heap.size w w' :=
  rbytes_any ((A * B + C) % qq) L (Nat.lt_of_lt_of_le (r_lt64 _) (pow_le256 h64)) hL a cap F w hr
set_option maxHeartbeats 3200000 in
theorem muladd_doc (A B C : Nat) (hA : A < 256 ^ 32) (hB : B < 256 ^ 32) (hC : C < 256 ^ 32) (w : World) :
    Calls Tryd.prog 14 #[.agg (By A 32).toArray, .agg (By B 32).toArray, .agg (By C 32).toArray] w fun e w' => e = .returned (.agg (By (mulq A B C) 32).toArray) ∧ Below w.heap.size w w' := by
  have ha := ((Row.new w (By A 32) 23).alloc (.cells (By B 32).toArray 23)).alloc (.cells (By C 32).toArray 23) |>.alloc (.cells (List.replicate 32 (Value.int .u8 0)).toArray 23)
  have hb := ((Row.new1 w (.cells (By A 32).toArray 23) (By B 32) 23).alloc (.cells (By C 32).toArray 23)).alloc (.cells (List.replicate 32 (Value.int .u8 0)).toArray 23)
  have hc := (Row.new2 w (.cells (By A 32).toArray 23) (.cells (By B 32).toArray 23) (By C 32) 23).alloc (.cells (List.replicate 32 (Value.int .u8 0)).toArray 23)
  have hr := Row.new3 w (.cells (By A 32).toArray 23) (.cells (By B 32).toArray 23) (.cells (By C 32).toArray 23) (List.replicate 32 (Value.int .u8 0)) 23
  have hb0 := Below.alloc4 w (.cells (By A 32).toArray 23) (.cells (By B 32).toArray 23) (.cells (By C 32).toArray 23) (.cells (List.replicate 32 (Value.int .u8 0)).toArray 23)
  have hsz : ((((w.alloc (.cells (By A 32).toArray 23)).alloc (.cells (By B 32).toArray 23)).alloc (.cells (By C 32).toArray 23)).alloc (.cells (List.replicate 32 (Value.int .u8 0)).toArray 23)).heap.size = w.heap.size + 1 + 1 + 1 + 1 := by simp
  have hS8 : ∀ x, (Tryd.prog.info? 23).map (·.size) = some (By x 32).toArray.size := by_info
  have hO8 : ∀ x, (List.replicate 32 (Value.int .u8 0)).toArray.size = (By x 32).toArray.size := fun x => by rw [List.size_toArray, List.size_toArray, By_length, List.length_replicate]
  have HA := Lib.hid ha
  have HB := Lib.hid hb
  have HC := Lib.hid hc
  have HR := Lib.hid hr
  have HB0 := Lib.hid hb0
  have HSZ := Lib.hid hsz
  have HS8 := Lib.hid hS8
  have HO8 := Lib.hid hO8
  have HA0 := Lib.hid hA
  have HB00 := Lib.hid hB
  have HC0 := Lib.hid hC
  clear ha hb hc hr hb0 hsz hA hB hC hS8 hO8
  go_enter Tryd.func14, Tryd.ntmps14
  go_upto_region 1 with fail
  change Code.wp _ _ _ _ ((((w.alloc (.cells (By A 32).toArray 23)).alloc (.cells (By B 32).toArray 23)).alloc (.cells (By C 32).toArray 23)).alloc (.cells (List.replicate 32 (Value.int .u8 0)).toArray 23))
  generalize (((w.alloc (.cells (By A 32).toArray 23)).alloc (.cells (By B 32).toArray 23)).alloc (.cells (By C 32).toArray 23)).alloc (.cells (List.replicate 32 (Value.int .u8 0)).toArray 23) = W at *
  have hl0 : Row W.drew (w.heap.size + 1 + 1 + 1) 23 (List.replicate 32 (Value.int .u8 0)) := HR.out
  refine wp_region_any (by kernel_rfl) ?_
  change wpAny _ _ _ _ _ _ _ (World.drew _)
  refine wpAny_of_held (S := (fun w' : World => Only (fun k => k = w.heap.size + 1 + 1 + 1) W w')) _ _ _ _ ?_
  have hHeld := ((Only.refl (fun k => k = w.heap.size + 1 + 1 + 1) W).drew)
  refine wpAnyH_take (i := 0) (v := ?_) rfl (by kernel_rfl) (by kernel_rfl) (by kernel_rfl) (fun _ _ _ h => h) (Or.inl ⟨by rfl, ?_⟩) hHeld ?_
  rotate_left
  · (intro w' hSw; go_simp; try (with_reducible rfl))
  change wpAnyH _ _ _ _ _ _ _ (Act.put _ (some 7) _) _
  simp only [Act.put, List.setIfInBounds_toArray, List.set_cons_zero, List.set_cons_succ]
  refine wpAnyH_take (i := 2) (v := ?_) rfl (by kernel_rfl) (by kernel_rfl) (by kernel_rfl) (fun _ _ _ h => h) (Or.inl ⟨by rfl, ?_⟩) hHeld ?_
  rotate_left
  · (intro w' hSw; go_simp; try (with_reducible rfl))
  change wpAnyH _ _ _ _ _ _ _ (Act.put _ (some 9) _) _
  simp only [Act.put, List.setIfInBounds_toArray, List.set_cons_zero, List.set_cons_succ]
  refine wpAnyH_take (i := 5) (v := ?_) rfl (by kernel_rfl) (by kernel_rfl) (by kernel_rfl) (fun _ _ _ h => h) (Or.inl ⟨by rfl, ?_⟩) hHeld ?_
  rotate_left
  · (intro w' hSw; go_simp; try (with_reducible rfl))
  change wpAnyH _ _ _ _ _ _ _ (Act.put _ (some 12) _) _
  simp only [Act.put, List.setIfInBounds_toArray, List.set_cons_zero, List.set_cons_succ]
  refine wpAnyH_ready (rs := [1]) (by kernel_rfl) (by simp) ?_
  refine AllReadyH.cons rfl (fun K hK => ?_) AllReadyH.nil
  rw [if_pos (by kernel_rfl)]
  go_simp
  refine (digits_any A 32 (by decide) (some ⟨w.heap.size, 0, none⟩) 32 _ _ ((HA.out.only hHeld (by show ¬ _ = w.heap.size + 1 + 1 + 1; omega)).rd (By_length A 32))).mono ?_
  rintro e w_c0 ⟨v, rfl, oa, hbw_c0⟩
  obtain ⟨ga, ca, rfl, _, _⟩ := oa.form (by decide)
  have hlw_c0 := hl0.belowAll hbw_c0
  refine hK.out _ _ (hHeld.trans (Only.of_below hbw_c0 _) (fun _ _ h => h)) (fun hHeld => ?_)
  clear hK K
  refine wpAnyH_ready (rs := [3]) (by kernel_rfl) (by simp) ?_
  refine AllReadyH.cons rfl (fun K hK => ?_) AllReadyH.nil
  rw [if_pos (by kernel_rfl)]
  go_simp
  refine (digits_any B 32 (by decide) (some ⟨(w.heap.size + 1), 0, none⟩) 32 _ _ ((HB.out.only hHeld (by show ¬ _ = w.heap.size + 1 + 1 + 1; omega)).rd (By_length B 32))).mono ?_
  rintro e w_c1 ⟨v, rfl, ob, hbw_c1⟩
  obtain ⟨gb, cb, rfl, _, _⟩ := ob.form (by decide)
  have oa_1 := own_below oa hbw_c1
  have hlw_c1 := hlw_c0.belowAll hbw_c1
  refine hK.out _ _ (hHeld.trans (Only.of_below hbw_c1 _) (fun _ _ h => h)) (fun hHeld => ?_)
  clear hK K
  refine wpAnyH_ready (rs := [4]) (by kernel_rfl) (by simp) ?_
  refine AllReadyH.cons rfl (fun K hK => ?_) AllReadyH.nil
  rw [if_pos (by kernel_rfl)]
  go_simp
  refine (mul_doc A 32 B 32 ga HA0.out HB00.out (by decide) (by decide) (by decide) (some ⟨gb, 0, none⟩) ca cb _ _ (own_cells oa_1) (oa_1.lt ga rfl).2 (Rd.of_own ob)).mono ?_
  rintro e w_c2 ⟨v, rfl, hab, om, hbw_c2⟩
  obtain ⟨gm, cm, rfl, _, _⟩ := om.form (by decide)
  have oa_1_2 := own_below oa_1 hbw_c2
  have ob_2 := own_below ob hbw_c2
  have hlw_c2 := hlw_c1.belowAll hbw_c2
  refine hK.out _ _ (hHeld.trans (Only.of_below hbw_c2 _) (fun _ _ h => h)) (fun hHeld => ?_)
  clear hK K
  refine wpAnyH_ready (rs := [6]) (by kernel_rfl) (by simp) ?_
  refine AllReadyH.cons rfl (fun K hK => ?_) AllReadyH.nil
  rw [if_pos (by kernel_rfl)]
  go_simp
  refine (digits_any C 32 (by decide) (some ⟨(w.heap.size + 1 + 1), 0, none⟩) 32 _ _ ((HC.out.only hHeld (by show ¬ _ = w.heap.size + 1 + 1 + 1; omega)).rd (By_length C 32))).mono ?_
  rintro e w_c3 ⟨v, rfl, oc, hbw_c3⟩
  obtain ⟨gc, cc, rfl, _, _⟩ := oc.form (by decide)
  have oa_1_2_3 := own_below oa_1_2 hbw_c3
  have ob_2_3 := own_below ob_2 hbw_c3
  have om_3 := own_below om hbw_c3
  have hlw_c3 := hlw_c2.belowAll hbw_c3
  refine hK.out _ _ (hHeld.trans (Only.of_below hbw_c3 _) (fun _ _ h => h)) (fun hHeld => ?_)
  clear hK K
  refine wpAnyH_ready (rs := [7]) (by kernel_rfl) (by simp) ?_
  refine AllReadyH.cons rfl (fun K hK => ?_) AllReadyH.nil
  rw [if_pos (by kernel_rfl)]
  go_simp
  refine (add_doc (A * B) 64 C 32 hab HC0.out (by decide) (by decide) (some ⟨gm, 0, none⟩) (some ⟨gc, 0, none⟩) cm cc _ _ _ (Rd.of_own om_3) (Rd.of_own oc)).mono ?_
  rintro e w_c4 ⟨v, L, rfl, hL1, hL2, hsum, os, hbw_c4⟩
  obtain ⟨gs, cs, rfl, _, _⟩ := os.form (by omega)
  have oa_1_2_3_4 := own_below oa_1_2_3 hbw_c4
  have ob_2_3_4 := own_below ob_2_3 hbw_c4
  have om_3_4 := own_below om_3 hbw_c4
  have oc_4 := own_below oc hbw_c4
  have hlw_c4 := hlw_c3.belowAll hbw_c4
  refine hK.out _ _ (hHeld.trans (Only.of_below hbw_c4 _) (fun _ _ h => h)) (fun hHeld => ?_)
  clear hK K
  refine wpAnyH_ready (rs := [8]) (by kernel_rfl) (by simp) ?_
  refine AllReadyH.cons rfl (fun K hK => ?_) AllReadyH.nil
  rw [if_pos (by kernel_rfl)]
  go_simp
  refine (rest_doc (A * B + C) L hsum (by omega) (by omega) (some ⟨gs, 0, none⟩) cs _ _ (Rd.of_own os)).mono ?_
  rintro e w_c5 ⟨v, rfl, ot, hbw_c5⟩
  obtain ⟨gt, ct, rfl, _, _⟩ := ot.form (by omega)
  have oa_1_2_3_4_5 := own_below oa_1_2_3_4 hbw_c5
  have ob_2_3_4_5 := own_below ob_2_3_4 hbw_c5
  have om_3_4_5 := own_below om_3_4 hbw_c5
  have oc_4_5 := own_below oc_4 hbw_c5
  have os_5 := own_below os hbw_c5
  have hlw_c5 := hlw_c4.belowAll hbw_c5
  refine hK.out _ _ (hHeld.trans (Only.of_below hbw_c5 _) (fun _ _ h => h)) (fun hHeld => ?_)
  clear hK K
  refine wpAnyH_ready (rs := [9]) (by kernel_rfl) (by simp) ?_
  refine AllReadyH.cons rfl (fun K hK => ?_) AllReadyH.nil
  rw [if_pos (by kernel_rfl)]
  go_simp
  refine (rbytes_q A B C L (by omega) (by omega) (some ⟨gt, 0, none⟩) ct _ _ (Rd.of_own ot)).mono ?_
  rintro e w_c6 ⟨rfl, hbw_c6⟩
  have oa_1_2_3_4_5_6 := own_below oa_1_2_3_4_5 hbw_c6
  have ob_2_3_4_5_6 := own_below ob_2_3_4_5 hbw_c6
  have om_3_4_5_6 := own_below om_3_4_5 hbw_c6
  have oc_4_5_6 := own_below oc_4_5 hbw_c6
  have os_5_6 := own_below os_5 hbw_c6
  have ot_6 := own_below ot hbw_c6
  have hlw_c6 := hlw_c5.belowAll hbw_c6
  refine hK.out _ _ (hHeld.trans (Only.of_below hbw_c6 _) (fun _ _ h => h)) (fun hHeld => ?_)
  clear hK K
  refine wpAnyH_ready (rs := [10]) (by kernel_rfl) (by simp) ?_
  refine AllReadyH.cons rfl (fun K hK => ?_) AllReadyH.nil
  rw [if_pos (by kernel_rfl)]
  refine wp_store_row 23 (.tmp 6) (.tmp 16) rfl (w.heap.size + 1 + 1 + 1) (By (mulq A B C) 32).toArray rfl rfl 23 _ hlw_c6 (HS8.out _) (HO8.out _) (By_one _ _) ?_
  have hs7 := hlw_c6.setRow (By (mulq A B C) 32)
  refine hK.out _ _ (hHeld.setRow (.inl rfl)) (fun hHeld => ?_)
  clear hK K
  refine wpAnyH_done (by kernel_rfl) ?_ _
  have HF := Lib.hid hHeld
  have HG := Lib.hid hs7
  clear hHeld hs7
  go_wp2_with fail
  refine bodyPost_ret (results_cell_row (by rfl) _ _ (w.heap.size + 1 + 1 + 1) _ _ _ _ (by rfl) HG.out Tryd.underlying23 rfl (HS8.out _)) rfl ?_
  exact ⟨rfl, HB0.out.trans (HF.out.below (by rw [HSZ.out]; omega) (fun k e => by subst e; omega))⟩
end Go.Proofs.YtklbcpaoccdmeaaDoor
