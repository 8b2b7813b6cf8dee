/- order's functions: MulAdd, Neg, Reduce. -/
import Derived.Test.YtklbcpaoccdmeaaDoorApi
import Derived.Laws.BitsAllLaws
import Derived.Deep.CutRange
import Derived.Deep.CutBlock
import Derived.RegionTactic
import Derived.Lib.Hide
import Derived.IntWalk
namespace Go.Proofs.YtklbcpaoccdmeaaDoor
set_option maxRecDepth 100000
open Go.RowKit

set_option linter.unusedSimpArgs false
theorem Only.setRow {S : Nat → Prop} {w w' : World} {g : Nat} {cs : Array Value} (h : Only S w w') (hg : S g ∨ w.heap.size ≤ g) : Only S w (w'.setRow g cs) :=
  h.trans (T := fun k => k = g) ⟨rfl, rfl, rfl, by simp [World.setRow], fun k _ hn => setRow_other _ _ _ _ hn⟩ (fun k hk e => by subst e; rcases hg with hg | hg; exact hg; omega)
theorem p64g (k n : Nat) (h : 8 * k = 64 * n) : 256 ^ k = M64 n := by unfold M64; rw [pow256, h]
theorem p64 : 256 ^ 64 = M64 8 := p64g 64 8 rfl
theorem big_lt {A B C : Nat} (hA : A < M64 4) (hB : B < M64 4) (hC : C < M64 4) : A * B + C < M64 8 := by
  have e : M64 8 = M64 4 * M64 4 := M64_add 4 4
  rw [e]
  generalize M64 4 = m at *
  have h1 : A * B ≤ (m - 1) * (m - 1) := Nat.mul_le_mul (by omega) (by omega)
  have h2 : (m - 1) * (m - 1) + m ≤ m * m := by
    obtain ⟨n, rfl⟩ : ∃ n, m = n + 1 := ⟨m - 1, by omega⟩
    rw [Nat.add_sub_cancel, Nat.add_mul, Nat.mul_add]
    omega
  omega
theorem Qt.only {S : Nat → Prop} {w w' : World} (h : Qt w) (ho : Only S w w') (hs : ¬ S 0) : Qt w' := by
  obtain ⟨t, h⟩ := h
  exact ⟨t, (ho.block 0 (Array.getElem?_eq_some_iff.1 h).1 hs).trans h⟩
theorem small8 {x : Nat} (h : x < qq) : x < M64 8 := Nat.lt_of_lt_of_le (Nat.lt_trans h qq_lt) (M64_mono (by omega))

set_option maxHeartbeats 3200000 in
theorem muladd_fn (A B C : Nat) (hA : A < 256 ^ 32) (hB : B < 256 ^ 32) (hC : C < 256 ^ 32) (w : World) (hq : Qt w) :
    Calls Tryd.prog 13 #[.agg (By A 32).toArray, .agg (By B 32).toArray, .agg (By C 32).toArray] w fun e w' => e = .returned (.agg (By ((A * B + C) % qq) 32).toArray) ∧ Below w.heap.size w w' := by
  have ha := ((Row.new w (By A 32) 23).alloc (.cells (By B 32).toArray 23)).alloc (.cells (By C 32).toArray 23) |>.alloc (.cells (List.replicate 32 (Value.int .u8 0)).toArray 23)
  have hb := ((Row.new1 w (.cells (By A 32).toArray 23) (By B 32) 23).alloc (.cells (By C 32).toArray 23)).alloc (.cells (List.replicate 32 (Value.int .u8 0)).toArray 23)
  have hc := (Row.new2 w (.cells (By A 32).toArray 23) (.cells (By B 32).toArray 23) (By C 32) 23).alloc (.cells (List.replicate 32 (Value.int .u8 0)).toArray 23)
  have hr := Row.new3 w (.cells (By A 32).toArray 23) (.cells (By B 32).toArray 23) (.cells (By C 32).toArray 23) (List.replicate 32 (Value.int .u8 0)) 23
  have hb0 := Below.alloc4 w (.cells (By A 32).toArray 23) (.cells (By B 32).toArray 23) (.cells (By C 32).toArray 23) (.cells (List.replicate 32 (Value.int .u8 0)).toArray 23)
  have hqw := hq.below hb0 hq.lt
  have hsz : ((((w.alloc (.cells (By A 32).toArray 23)).alloc (.cells (By B 32).toArray 23)).alloc (.cells (By C 32).toArray 23)).alloc (.cells (List.replicate 32 (Value.int .u8 0)).toArray 23)).heap.size = w.heap.size + 1 + 1 + 1 + 1 := by simp
  have hql := hq.lt
  have hA4 : A < M64 4 := by rw [← p32]; exact hA
  have hB4 : B < M64 4 := by rw [← p32]; exact hB
  have hC4 : C < M64 4 := by rw [← p32]; exact hC
  have hbig := big_lt hA4 hB4 hC4
  have hO6 : ∀ x, ([Value.int .u64 0, .int .u64 0, .int .u64 0, .int .u64 0, .int .u64 0, .int .u64 0, .int .u64 0, .int .u64 0]).toArray.size = (Nm x).toArray.size := fun _ => rfl
  have hS : ∀ x, (Tryd.prog.info? 36).map (·.size) = some (Nm x).toArray.size := nm_info
  have hL : ∀ x, (Tryd.prog.info? 36).map (·.size) = some (Nm x).length := nm_len
  have hS8 : ∀ x, (Tryd.prog.info? 23).map (·.size) = some (By x 32).toArray.size := by_info
  have hO8 : ∀ x, (List.replicate 32 (Value.int .u8 0)).toArray.size = (By x 32).toArray.size := fun x => by rw [List.size_toArray, List.size_toArray, By_length, List.length_replicate]
  have HO6 := Lib.hid hO6
  have HS4 := Lib.hid hS
  have HL4 := Lib.hid hL
  have HS8 := Lib.hid hS8
  have HO8 := Lib.hid hO8
  clear hO6 hS hL hS8 hO8
  have HA := Lib.hid ha
  have HB := Lib.hid hb
  have HC := Lib.hid hc
  have HR := Lib.hid hr
  have HB0 := Lib.hid hb0
  have HQW := Lib.hid hqw
  have HSZ := Lib.hid hsz
  have HQL := Lib.hid hql
  have HA4 := Lib.hid hA4
  have HB4 := Lib.hid hB4
  have HBIG := Lib.hid hbig
  have HA0 := Lib.hid hA
  have HB00 := Lib.hid hB
  have HC0 := Lib.hid hC
  clear ha hb hc hr hb0 hq hqw hsz hql hA4 hB4 hC4 hbig hA hB hC
  go_enter Tryd.func13, Tryd.ntmps13
  go_upto_region 1 with fail
  change Code.wp _ _ _ _ ((((w.alloc (.cells (By A 32).toArray 23)).alloc (.cells (By B 32).toArray 23)).alloc (.cells (By C 32).toArray 23)).alloc (.cells (List.replicate 32 (Value.int .u8 0)).toArray 23))
  generalize (((w.alloc (.cells (By A 32).toArray 23)).alloc (.cells (By B 32).toArray 23)).alloc (.cells (By C 32).toArray 23)).alloc (.cells (List.replicate 32 (Value.int .u8 0)).toArray 23) = W at *
  have hl0 : Row W.drew (w.heap.size + 1 + 1 + 1) 23 (List.replicate 32 (Value.int .u8 0)) := HR.out
  refine wp_region_any (by kernel_rfl) ?_
  change wpAny _ _ _ _ _ _ _ (World.drew _)
  refine wpAny_of_held (S := (fun w' : World => Only (fun k => k = w.heap.size + 1 + 1 + 1) W w')) _ _ _ _ ?_
  have hHeld := ((Only.refl (fun k => k = w.heap.size + 1 + 1 + 1) W).drew)
  refine wpAnyH_take (i := 0) (v := ?_) rfl (by kernel_rfl) (by kernel_rfl) (by kernel_rfl) (fun _ _ _ h => h) (Or.inl ⟨by rfl, ?_⟩) hHeld ?_
  rotate_left
  · (intro w' hSw; go_simp; try (with_reducible rfl))
  change wpAnyH _ _ _ _ _ _ _ (Act.put _ (some 7) _) _
  simp only [Act.put, List.setIfInBounds_toArray, List.set_cons_zero, List.set_cons_succ]
  refine wpAnyH_take (i := 2) (v := ?_) rfl (by kernel_rfl) (by kernel_rfl) (by kernel_rfl) (fun _ _ _ h => h) (Or.inl ⟨by rfl, ?_⟩) hHeld ?_
  rotate_left
  · (intro w' hSw; go_simp; try (with_reducible rfl))
  change wpAnyH _ _ _ _ _ _ _ (Act.put _ (some 9) _) _
  simp only [Act.put, List.setIfInBounds_toArray, List.set_cons_zero, List.set_cons_succ]
  refine wpAnyH_take (i := 5) (v := ?_) rfl (by kernel_rfl) (by kernel_rfl) (by kernel_rfl) (fun _ _ _ h => h) (Or.inl ⟨by rfl, ?_⟩) hHeld ?_
  rotate_left
  · (intro w' hSw; go_simp; try (with_reducible rfl))
  change wpAnyH _ _ _ _ _ _ _ (Act.put _ (some 12) _) _
  simp only [Act.put, List.setIfInBounds_toArray, List.set_cons_zero, List.set_cons_succ]
  refine wpAnyH_ready (rs := [1]) (by kernel_rfl) (by simp) ?_
  refine AllReadyH.cons rfl (fun K hK => ?_) AllReadyH.nil
  rw [if_pos (by kernel_rfl)]
  go_simp
  refine (read_by A 32 w.heap.size _ _ (by decide) HA0.out (HA.out.only hHeld (by show ¬ _ = w.heap.size + 1 + 1 + 1; omega))).mono ?_
  rintro e w_c0 ⟨rfl, hbw_c0⟩
  have hlw_c0 := hl0.belowAll hbw_c0
  refine hK.out _ _ (hHeld.trans (Only.of_below hbw_c0 _) (fun _ _ h => h)) (fun hHeld => ?_)
  clear hK K
  refine wpAnyH_ready (rs := [3]) (by kernel_rfl) (by simp) ?_
  refine AllReadyH.cons rfl (fun K hK => ?_) AllReadyH.nil
  rw [if_pos (by kernel_rfl)]
  go_simp
  refine (read_by B 32 (w.heap.size + 1) _ _ (by decide) HB00.out (HB.out.only hHeld (by show ¬ _ = w.heap.size + 1 + 1 + 1; omega))).mono ?_
  rintro e w_c1 ⟨rfl, hbw_c1⟩
  have hlw_c1 := hlw_c0.belowAll hbw_c1
  refine hK.out _ _ (hHeld.trans (Only.of_below hbw_c1 _) (fun _ _ h => h)) (fun hHeld => ?_)
  clear hK K
  refine wpAnyH_ready (rs := [4]) (by kernel_rfl) (by simp) ?_
  refine AllReadyH.cons rfl (fun K hK => ?_) AllReadyH.nil
  rw [if_pos (by kernel_rfl)]
  go_simp
  refine (times_any A B HA4.out HB4.out _).mono ?_
  rintro e w_c2 ⟨rfl, hbw_c2⟩
  have hlw_c2 := hlw_c1.belowAll hbw_c2
  refine hK.out _ _ (hHeld.trans (Only.of_below hbw_c2 _) (fun _ _ h => h)) (fun hHeld => ?_)
  clear hK K
  refine wpAnyH_ready (rs := [6]) (by kernel_rfl) (by simp) ?_
  refine AllReadyH.cons rfl (fun K hK => ?_) AllReadyH.nil
  rw [if_pos (by kernel_rfl)]
  go_simp
  refine (read_by C 32 (w.heap.size + 1 + 1) _ _ (by decide) HC0.out (HC.out.only hHeld (by show ¬ _ = w.heap.size + 1 + 1 + 1; omega))).mono ?_
  rintro e w_c3 ⟨rfl, hbw_c3⟩
  have hlw_c3 := hlw_c2.belowAll hbw_c3
  refine hK.out _ _ (hHeld.trans (Only.of_below hbw_c3 _) (fun _ _ h => h)) (fun hHeld => ?_)
  clear hK K
  refine wpAnyH_ready (rs := [7]) (by kernel_rfl) (by simp) ?_
  refine AllReadyH.cons rfl (fun K hK => ?_) AllReadyH.nil
  rw [if_pos (by kernel_rfl)]
  go_simp
  refine (plus_any (A * B) C _).mono ?_
  rintro e w_c4 ⟨rfl, hbw_c4⟩
  have hlw_c4 := hlw_c3.belowAll hbw_c4
  refine hK.out _ _ (hHeld.trans (Only.of_below hbw_c4 _) (fun _ _ h => h)) (fun hHeld => ?_)
  clear hK K
  refine wpAnyH_ready (rs := [8]) (by kernel_rfl) (by simp) ?_
  refine AllReadyH.cons rfl (fun K hK => ?_) AllReadyH.nil
  rw [if_pos (by kernel_rfl)]
  go_simp
  refine (rest_any (A * B + C) HBIG.out _ (HQW.out.only hHeld (by have := HQL.out; show ¬ _ = w.heap.size + 1 + 1 + 1; omega))).mono ?_
  rintro e w_c5 ⟨rfl, hbw_c5⟩
  have hlw_c5 := hlw_c4.belowAll hbw_c5
  refine hK.out _ _ (hHeld.trans (Only.of_below hbw_c5 _) (fun _ _ h => h)) (fun hHeld => ?_)
  clear hK K
  refine wpAnyH_ready (rs := [9]) (by kernel_rfl) (by simp) ?_
  refine AllReadyH.cons rfl (fun K hK => ?_) AllReadyH.nil
  rw [if_pos (by kernel_rfl)]
  go_simp
  refine (bytes_any ((A * B + C) % qq) _).mono ?_
  rintro e w_c6 ⟨rfl, hbw_c6⟩
  have hlw_c6 := hlw_c5.belowAll hbw_c6
  refine hK.out _ _ (hHeld.trans (Only.of_below hbw_c6 _) (fun _ _ h => h)) (fun hHeld => ?_)
  clear hK K
  refine wpAnyH_ready (rs := [10]) (by kernel_rfl) (by simp) ?_
  refine AllReadyH.cons rfl (fun K hK => ?_) AllReadyH.nil
  rw [if_pos (by kernel_rfl)]
  refine wp_store_row 23 (.tmp 6) (.tmp 16) rfl (w.heap.size + 1 + 1 + 1) (By ((A * B + C) % qq) 32).toArray rfl rfl 23 _ hlw_c6 (HS8.out _) (HO8.out _) (By_one _ _) ?_
  have hs7 := hlw_c6.setRow (By ((A * B + C) % qq) 32)
  refine hK.out _ _ (hHeld.setRow (.inl rfl)) (fun hHeld => ?_)
  clear hK K
  refine wpAnyH_done (by kernel_rfl) ?_ _
  have HF := Lib.hid hHeld
  have HG := Lib.hid hs7
  clear hHeld hs7
  go_wp2_with fail
  refine bodyPost_ret (results_cell_row (by rfl) _ _ (w.heap.size + 1 + 1 + 1) _ _ _ _ (by rfl) HG.out Tryd.underlying23 rfl (HS8.out _)) rfl ?_
  exact ⟨rfl, HB0.out.trans (HF.out.below (by rw [HSZ.out]; omega) (fun k e => by subst e; omega))⟩

end Go.Proofs.YtklbcpaoccdmeaaDoor
