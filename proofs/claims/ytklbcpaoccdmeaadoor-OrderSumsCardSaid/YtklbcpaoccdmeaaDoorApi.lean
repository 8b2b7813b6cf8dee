/- order's functions: Reduce, Below. -/
import Derived.Test.YtklbcpaoccdmeaaDoorRest
import Derived.Test.YtklbcpaoccdmeaaDoorRdn
import Derived.Test.YtklbcpaoccdmeaaDoorByt
import Derived.Test.YtklbcpaoccdmeaaDoorTimes
import Derived.Deep.RegionHeld3
import Derived.Deep.MidRow
import Derived.Laws.BitsAllLaws
import Derived.Deep.CutRange
import Derived.Deep.CutBlock
import Derived.RegionTactic
import Derived.Lib.Hide
import Derived.IntWalk
namespace Go.Proofs.YtklbcpaoccdmeaaDoor
set_option maxRecDepth 100000
open Go.RowKit

set_option linter.unusedSimpArgs false
theorem Row.range {w : World} {g : Nat} {T : TypeId} {l : List Value} (h : Row w g T l) : w.rangeAt g 0 l := by
  intro j v hv
  rw [Nat.zero_add]
  exact h.cell hv
theorem By_nat (N n : Nat) : By N n = ((List.range n).map (byt N)).map fun x => .int .u8 ((x : Nat) : Int) := by simp [By, Tabs]
theorem byts_lt (N n : Nat) : ∀ x ∈ (List.range n).map (byt N), x < 256 := by
  intro x hx
  obtain ⟨i, _, rfl⟩ := List.mem_map.1 hx
  exact byt_lt N i
/-- A number's bytes, read. -/
theorem read_by (N n g : Nat) (T : TypeId) (w : World) (hn : n ≤ 64) (hN : N < 256 ^ n) (hr : Row w g T (By N n)) :
    Calls Tryd.prog 17 #[.slice (some ⟨g, 0, none⟩) n n] w fun e w' => e = .returned (.agg (Nm N).toArray) ∧ Below w.heap.size w w' := by
  have h := hr.rd (n := n) (By_length N n)
  rw [By_nat] at h
  have hc := read_any ((List.range n).map (byt N)) (some ⟨g, 0, none⟩) n n (fun k => k = g) w (byts_lt N n) hn h
  rwa [lev_byts, Nat.mod_eq_of_lt hN] at hc
theorem p32 : 256 ^ 32 = M64 4 := by rw [pow256]; rfl
theorem nm_len (N : Nat) : (Tryd.prog.info? 36).map (·.size) = some (Nm N).length := by rw [Nm_length]; kernel_rfl
theorem by_len (N : Nat) : (Tryd.prog.info? 23).map (·.size) = some (By N 32).length := by rw [By_length]; kernel_rfl
theorem Qt.row {w : World} (h : Qt w) : ∃ t, Row w 0 t (Nm qq) := h
theorem sub_hd {x : Nat} (h : qq ≤ x + M64 8) : x + M64 8 - qq + qq = x + M64 8 := by omega
theorem qq_8 : qq ≤ M64 8 := Nat.le_of_lt (Nat.lt_of_lt_of_le qq_lt (M64_mono (by omega)))

set_option maxHeartbeats 3200000 in
theorem below_fn (N : Nat) (hN : N < 256 ^ 32) (w : World) (hq : Qt w) :
    Calls Tryd.prog 10 #[.agg (By N 32).toArray] w fun e w' => e = .returned (.bool (decide (N < qq))) ∧ Below w.heap.size w w' := by
  obtain ⟨tq, hq0⟩ := hq.row
  have hbox := Row.new w (By N 32) 23
  have hqw := hq0.alloc (.cells (By N 32).toArray 23)
  have hmin := fun w => minus_any N qq (N + M64 8 - qq) (sub_hd (by have := qq_8; omega)) w
  have hqm : qq % M64 8 = qq := Nat.mod_eq_of_lt (Nat.lt_of_lt_of_le qq_lt (M64_mono (by omega)))
  have hxm : N % M64 8 = N := Nat.mod_eq_of_lt (by rw [p32] at hN; exact Nat.lt_of_lt_of_le hN (M64_mono (by omega)))
  rw [hqm, hxm] at hmin
  have hO6 : ∀ x, ([Value.int .u64 0, .int .u64 0, .int .u64 0, .int .u64 0, .int .u64 0, .int .u64 0, .int .u64 0, .int .u64 0]).toArray.size = (Nm x).toArray.size := fun _ => rfl
  have hS : ∀ x, (Tryd.prog.info? 36).map (·.size) = some (Nm x).toArray.size := nm_info
  have hL : ∀ x, (Tryd.prog.info? 36).map (·.size) = some (Nm x).length := nm_len
  have hb0 : Below w.heap.size w (w.alloc (.cells (By N 32).toArray 23)) := (Below.refl _ _).alloc (Nat.le_refl _) _
  have HBOX := Lib.hid hbox
  have HQW := Lib.hid hqw
  have HMIN := Lib.hid hmin
  have HO6 := Lib.hid hO6
  have HS4 := Lib.hid hS
  have HL4 := Lib.hid hL
  have HB0 := Lib.hid hb0
  have HN := Lib.hid hN
  clear hq hq0 hbox hqw hmin hqm hxm hO6 hS hL hb0 hN
  generalize N + M64 8 - qq = D at *
  go_enter Tryd.func10, Tryd.ntmps10
  go_wp2_with fail
  generalize hW : w.alloc (.cells (By N 32).toArray 23) = W at *
  have hwl : w.heap.size ≤ W.heap.size := by rw [← hW]; simp
  have HWL := Lib.hid hwl
  clear hW hwl
  refine wp_region_any (by kernel_rfl) ?_
  change wpAny _ _ _ _ _ _ _ (World.drew _)
  refine wpAny_of_held (S := (fun w' : World => Below W.heap.size W w')) _ _ _ _ ?_
  have hHeld := ((Below.refl W.heap.size W).drew)
  refine wpAnyH_take (i := 0) (v := ?_) rfl (by kernel_rfl) (by kernel_rfl) (by kernel_rfl) (fun _ _ _ h => h) (Or.inl ⟨by rfl, ?_⟩) hHeld ?_
  rotate_left
  · (intro w' hSw; go_simp; try (with_reducible rfl))
  change wpAnyH _ _ _ _ _ _ _ (Act.put _ (some 6) _) _
  simp only [Act.put, List.setIfInBounds_toArray, List.set_cons_zero, List.set_cons_succ]
  refine wpAnyH_take (i := 2) (v := .agg (Nm qq).toArray) rfl (by kernel_rfl) (by kernel_rfl) (by kernel_rfl) (fun _ _ _ h => h) (yieldsIf_load_mid (by rfl) 36 (.global 0) rfl 0 0 rfl (Nm qq) _ (fun w' hSw => (HQW.out.belowAll hSw).range) (by rfl) rfl (HL4.out _)) hHeld ?_
  change wpAnyH _ _ _ _ _ _ _ (Act.put _ (some 8) _) _
  simp only [Act.put, List.setIfInBounds_toArray, List.set_cons_zero, List.set_cons_succ]
  refine wpAnyH_ready (rs := [1, 7]) (by kernel_rfl) (by simp) ?_
  refine AllReadyH.cons rfl (fun K hK => ?_) (AllReadyH.cons rfl (fun K hK => ?_) AllReadyH.nil)
  · rw [if_pos (by kernel_rfl)]
    go_simp
    refine (read_by N 32 w.heap.size _ _ (by decide) HN.out (HBOX.out.belowAll hHeld)).mono ?_
    rintro e w_1_c0 ⟨rfl, hbw_1_c0⟩
    refine hK.out _ _ (hHeld.trans (hbw_1_c0.mono hHeld.size)) (fun hHeld => ?_)
    clear hK K
    refine wpAnyH_ready (rs := [3, 7]) (by kernel_rfl) (by simp) ?_
    refine AllReadyH.cons rfl (fun K hK => ?_) (AllReadyH.cons rfl (fun K hK => ?_) AllReadyH.nil)
    · rw [if_pos (by kernel_rfl)]
      go_simp
      refine (HMIN.out _).mono ?_
      rintro e w_1_3_c1 ⟨rfl, hbw_1_3_c1⟩
      refine hK.out _ _ (hHeld.trans (hbw_1_3_c1.mono hHeld.size)) (fun hHeld => ?_)
      clear hK K
      refine wpAnyH_take (i := 4) (v := ?_) rfl (by kernel_rfl) (by kernel_rfl) (by kernel_rfl) (fun _ _ _ h => h) (Or.inl ⟨by rfl, ?_⟩) hHeld ?_
      rotate_left
      · (intro w' hSw; go_simp; try (with_reducible rfl))
      change wpAnyH _ _ _ _ _ _ _ (Act.put _ (some 5) _) _
      simp only [Act.put, List.setIfInBounds_toArray, List.set_cons_zero, List.set_cons_succ]
      refine wpAnyH_take (i := 5) (v := ?_) rfl (by kernel_rfl) (by kernel_rfl) (by kernel_rfl) (fun _ _ _ h => h) (Or.inl ⟨by rfl, ?_⟩) hHeld ?_
      rotate_left
      · (intro w' hSw; go_simp; try (with_reducible rfl))
      change wpAnyH _ _ _ _ _ _ _ (Act.put _ (some 10) _) _
      simp only [Act.put, List.setIfInBounds_toArray, List.set_cons_zero, List.set_cons_succ]
      refine wpAnyH_take (i := 6) (v := ?_) rfl (by kernel_rfl) (by kernel_rfl) (by kernel_rfl) (fun _ _ _ h => h) (Or.inl ⟨by rfl, ?_⟩) hHeld ?_
      rotate_left
      · (intro w' hSw; go_simp; try (with_reducible rfl))
      change wpAnyH _ _ _ _ _ _ _ (Act.put _ (some 11) _) _
      simp only [Act.put, List.setIfInBounds_toArray, List.set_cons_zero, List.set_cons_succ]
      refine wpAnyH_ready (rs := [7]) (by kernel_rfl) (by simp) ?_
      refine AllReadyH.cons rfl (fun K hK => ?_) AllReadyH.nil
      rw [if_pos (by kernel_rfl)]
      go_simp
      have hl2a := Row.new w_1_3_c1 (Nm 0) 36
      rw [Nm_zero] at hl2a
      have hgs := hHeld.size
      refine hK.out _ _ (hHeld.alloc hHeld.size _) (fun hHeld => ?_)
      clear hK K
      refine wpAnyH_ready (rs := [8]) (by kernel_rfl) (by simp) ?_
      refine AllReadyH.cons rfl (fun K hK => ?_) AllReadyH.nil
      rw [if_pos (by kernel_rfl)]
      refine wp_store_row 36 (.tmp 3) (.tmp 10) rfl (w_1_3_c1.heap.size) (Nm D).toArray rfl rfl 36 _ hl2a (HS4.out _) (HO6.out _) (Nm_one _) ?_
      have hs3 := hl2a.setRow (Nm D)
      refine hK.out _ _ (below_setRow hHeld (hgs) _) (fun hHeld => ?_)
      clear hK K
      refine wpAnyH_take (i := 9) (v := ?_) rfl (by kernel_rfl) (by kernel_rfl) (by kernel_rfl) (fun _ _ _ h => h) (Or.inl ⟨by rfl, ?_⟩) hHeld ?_
      rotate_left
      · (intro w' hSw; go_simp; try (with_reducible rfl))
      change wpAnyH _ _ _ _ _ _ _ (Act.put _ (some 4) _) _
      simp only [Act.put, List.setIfInBounds_toArray, List.set_cons_zero, List.set_cons_succ]
      refine wpAnyH_done (by kernel_rfl) ?_ _
      have HF := Lib.hid hHeld
      clear hHeld
      go_wp2_with fail
      go_ret
      exact ⟨rfl, HB0.out.trans (HF.out.mono HWL.out)⟩
    · rw [if_pos (by kernel_rfl)]
      go_simp
      have hl1a := Row.new w_1_c0 (Nm 0) 36
      rw [Nm_zero] at hl1a
      have hgs := hHeld.size
      refine hK.out _ _ (hHeld.alloc hHeld.size _) (fun hHeld => ?_)
      clear hK K
      refine wpAnyH_ready (rs := [3]) (by kernel_rfl) (by simp) ?_
      refine AllReadyH.cons rfl (fun K hK => ?_) AllReadyH.nil
      rw [if_pos (by kernel_rfl)]
      go_simp
      refine (HMIN.out _).mono ?_
      rintro e w_1_7_c2 ⟨rfl, hbw_1_7_c2⟩
      have hlw_1_7_c2 := hl1a.belowAll hbw_1_7_c2
      refine hK.out _ _ (hHeld.trans (hbw_1_7_c2.mono hHeld.size)) (fun hHeld => ?_)
      clear hK K
      refine wpAnyH_take (i := 4) (v := ?_) rfl (by kernel_rfl) (by kernel_rfl) (by kernel_rfl) (fun _ _ _ h => h) (Or.inl ⟨by rfl, ?_⟩) hHeld ?_
      rotate_left
      · (intro w' hSw; go_simp; try (with_reducible rfl))
      change wpAnyH _ _ _ _ _ _ _ (Act.put _ (some 5) _) _
      simp only [Act.put, List.setIfInBounds_toArray, List.set_cons_zero, List.set_cons_succ]
      refine wpAnyH_take (i := 5) (v := ?_) rfl (by kernel_rfl) (by kernel_rfl) (by kernel_rfl) (fun _ _ _ h => h) (Or.inl ⟨by rfl, ?_⟩) hHeld ?_
      rotate_left
      · (intro w' hSw; go_simp; try (with_reducible rfl))
      change wpAnyH _ _ _ _ _ _ _ (Act.put _ (some 10) _) _
      simp only [Act.put, List.setIfInBounds_toArray, List.set_cons_zero, List.set_cons_succ]
      refine wpAnyH_take (i := 6) (v := ?_) rfl (by kernel_rfl) (by kernel_rfl) (by kernel_rfl) (fun _ _ _ h => h) (Or.inl ⟨by rfl, ?_⟩) hHeld ?_
      rotate_left
      · (intro w' hSw; go_simp; try (with_reducible rfl))
      change wpAnyH _ _ _ _ _ _ _ (Act.put _ (some 11) _) _
      simp only [Act.put, List.setIfInBounds_toArray, List.set_cons_zero, List.set_cons_succ]
      refine wpAnyH_ready (rs := [8]) (by kernel_rfl) (by simp) ?_
      refine AllReadyH.cons rfl (fun K hK => ?_) AllReadyH.nil
      rw [if_pos (by kernel_rfl)]
      refine wp_store_row 36 (.tmp 3) (.tmp 10) rfl (w_1_c0.heap.size) (Nm D).toArray rfl rfl 36 _ hlw_1_7_c2 (HS4.out _) (HO6.out _) (Nm_one _) ?_
      have hs3 := hlw_1_7_c2.setRow (Nm D)
      refine hK.out _ _ (below_setRow hHeld (hgs) _) (fun hHeld => ?_)
      clear hK K
      refine wpAnyH_take (i := 9) (v := ?_) rfl (by kernel_rfl) (by kernel_rfl) (by kernel_rfl) (fun _ _ _ h => h) (Or.inl ⟨by rfl, ?_⟩) hHeld ?_
      rotate_left
      · (intro w' hSw; go_simp; try (with_reducible rfl))
      change wpAnyH _ _ _ _ _ _ _ (Act.put _ (some 4) _) _
      simp only [Act.put, List.setIfInBounds_toArray, List.set_cons_zero, List.set_cons_succ]
      refine wpAnyH_done (by kernel_rfl) ?_ _
      have HF := Lib.hid hHeld
      clear hHeld
      go_wp2_with fail
      go_ret
      exact ⟨rfl, HB0.out.trans (HF.out.mono HWL.out)⟩
  · rw [if_pos (by kernel_rfl)]
    go_simp
    have hl0a := Row.new W.drew (Nm 0) 36
    rw [Nm_zero] at hl0a
    have hgs := hHeld.size
    refine hK.out _ _ (hHeld.alloc hHeld.size _) (fun hHeld => ?_)
    clear hK K
    refine wpAnyH_ready (rs := [1]) (by kernel_rfl) (by simp) ?_
    refine AllReadyH.cons rfl (fun K hK => ?_) AllReadyH.nil
    rw [if_pos (by kernel_rfl)]
    go_simp
    refine (read_by N 32 w.heap.size _ _ (by decide) HN.out (HBOX.out.belowAll hHeld)).mono ?_
    rintro e w_7_c1 ⟨rfl, hbw_7_c1⟩
    have hlw_7_c1 := hl0a.belowAll hbw_7_c1
    refine hK.out _ _ (hHeld.trans (hbw_7_c1.mono hHeld.size)) (fun hHeld => ?_)
    clear hK K
    refine wpAnyH_ready (rs := [3]) (by kernel_rfl) (by simp) ?_
    refine AllReadyH.cons rfl (fun K hK => ?_) AllReadyH.nil
    rw [if_pos (by kernel_rfl)]
    go_simp
    refine (HMIN.out _).mono ?_
    rintro e w_7_c2 ⟨rfl, hbw_7_c2⟩
    have hlw_7_c2 := hlw_7_c1.belowAll hbw_7_c2
    refine hK.out _ _ (hHeld.trans (hbw_7_c2.mono hHeld.size)) (fun hHeld => ?_)
    clear hK K
    refine wpAnyH_take (i := 4) (v := ?_) rfl (by kernel_rfl) (by kernel_rfl) (by kernel_rfl) (fun _ _ _ h => h) (Or.inl ⟨by rfl, ?_⟩) hHeld ?_
    rotate_left
    · (intro w' hSw; go_simp; try (with_reducible rfl))
    change wpAnyH _ _ _ _ _ _ _ (Act.put _ (some 5) _) _
    simp only [Act.put, List.setIfInBounds_toArray, List.set_cons_zero, List.set_cons_succ]
    refine wpAnyH_take (i := 5) (v := ?_) rfl (by kernel_rfl) (by kernel_rfl) (by kernel_rfl) (fun _ _ _ h => h) (Or.inl ⟨by rfl, ?_⟩) hHeld ?_
    rotate_left
    · (intro w' hSw; go_simp; try (with_reducible rfl))
    change wpAnyH _ _ _ _ _ _ _ (Act.put _ (some 10) _) _
    simp only [Act.put, List.setIfInBounds_toArray, List.set_cons_zero, List.set_cons_succ]
    refine wpAnyH_take (i := 6) (v := ?_) rfl (by kernel_rfl) (by kernel_rfl) (by kernel_rfl) (fun _ _ _ h => h) (Or.inl ⟨by rfl, ?_⟩) hHeld ?_
    rotate_left
    · (intro w' hSw; go_simp; try (with_reducible rfl))
    change wpAnyH _ _ _ _ _ _ _ (Act.put _ (some 11) _) _
    simp only [Act.put, List.setIfInBounds_toArray, List.set_cons_zero, List.set_cons_succ]
    refine wpAnyH_ready (rs := [8]) (by kernel_rfl) (by simp) ?_
    refine AllReadyH.cons rfl (fun K hK => ?_) AllReadyH.nil
    rw [if_pos (by kernel_rfl)]
    refine wp_store_row 36 (.tmp 3) (.tmp 10) rfl (W.drew.heap.size) (Nm D).toArray rfl rfl 36 _ hlw_7_c2 (HS4.out _) (HO6.out _) (Nm_one _) ?_
    have hs3 := hlw_7_c2.setRow (Nm D)
    refine hK.out _ _ (below_setRow hHeld (hgs) _) (fun hHeld => ?_)
    clear hK K
    refine wpAnyH_take (i := 9) (v := ?_) rfl (by kernel_rfl) (by kernel_rfl) (by kernel_rfl) (fun _ _ _ h => h) (Or.inl ⟨by rfl, ?_⟩) hHeld ?_
    rotate_left
    · (intro w' hSw; go_simp; try (with_reducible rfl))
    change wpAnyH _ _ _ _ _ _ _ (Act.put _ (some 4) _) _
    simp only [Act.put, List.setIfInBounds_toArray, List.set_cons_zero, List.set_cons_succ]
    refine wpAnyH_done (by kernel_rfl) ?_ _
    have HF := Lib.hid hHeld
    clear hHeld
    go_wp2_with fail
    go_ret
    exact ⟨rfl, HB0.out.trans (HF.out.mono HWL.out)⟩
end Go.Proofs.YtklbcpaoccdmeaaDoor
