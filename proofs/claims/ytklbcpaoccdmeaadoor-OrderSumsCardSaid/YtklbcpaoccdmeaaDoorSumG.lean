/- order.Sum of any slice. -/
import Derived.Test.YtklbcpaoccdmeaaDoorSlA
import Derived.Laws.BitsAllLaws
import Derived.Deep.CutRange
import Derived.Deep.CutBlock
import Derived.RegionTactic
import Derived.Lib.Hide
import Derived.IntWalk
namespace Go.Proofs.YtklbcpaoccdmeaaDoor
set_option maxRecDepth 100000
open Go.RowKit

set_option linter.unusedSimpArgs false
set_option maxHeartbeats 3200000 in
theorem sum_gen (l : List Nat) (A : Option Addr) (n cap : Nat) (w : World) (ha : RdA w A n l) (hn : n ≤ 9223372036854775807) (hq : Qt w) :
    Calls Tryd.prog 16 #[.slice A n cap] w fun e w' => e = .returned (.agg (By (l.sum % qq) 32).toArray) ∧ Below w.heap.size w w' := by
  have hln := ha.1
  have hl := ha.2.1
  have hl4 : ∀ N ∈ l, N < M64 4 := by intro N h; rw [← p32]; exact hl N h
  have htot : l.sum < M64 8 := by
    have := tot_lt hl4 (by omega)
    unfold tot at this
    rwa [List.take_length] at this
  have hO6 : ∀ x, ([Value.int .u64 0, .int .u64 0, .int .u64 0, .int .u64 0, .int .u64 0, .int .u64 0, .int .u64 0, .int .u64 0]).toArray.size = (Nm x).toArray.size := fun _ => rfl
  have hS : ∀ x, (Tryd.prog.info? 36).map (·.size) = some (Nm x).toArray.size := nm_info
  have hL : ∀ x, (Tryd.prog.info? 36).map (·.size) = some (Nm x).length := nm_len
  have hS8 : ∀ x, (Tryd.prog.info? 23).map (·.size) = some (By x 32).toArray.size := by_info
  have hO8 : ∀ x, (List.replicate 32 (Value.int .u8 0)).toArray.size = (By x 32).toArray.size := fun x => by rw [List.size_toArray, List.size_toArray, By_length, List.length_replicate]
  have HO6 := Lib.hid hO6
  have HS4 := Lib.hid hS
  have HL4 := Lib.hid hL
  have HS8 := Lib.hid hS8
  have HO8 := Lib.hid hO8
  clear hO6 hS hL hS8 hO8
  have HLN := Lib.hid hln
  have HL := Lib.hid hl
  have HA := Lib.hid ha
  have HQ := Lib.hid hq
  have HTOT := Lib.hid htot
  clear hln hl hl4 ha hq htot
  go_enter Tryd.func16, Tryd.ntmps16
  go_wp2_with fail
  go_loopw [8] (fun i wr => ∃ k : Nat, k ≤ n ∧ i = .int .i64 k ∧ Row wr (w.heap.size + 1) 36 (Nm (tot l k)) ∧ Row wr w.heap.size 23 (List.replicate 32 (Value.int .u8 0)) ∧ Below w.heap.size w wr) (fun i _ => n - (intOf i).toNat)
  case atStart =>
    refine ⟨0, Nat.zero_le _, rfl, ?_, ?_, Below.alloc2 _ _ _⟩
    · have e : tot l 0 = 0 := rfl
      rw [e, Nm_zero]
      exact Row.new1 w _ _ _
    · exact (Row.new w (List.replicate 32 (Value.int .u8 0)) _).alloc _
  case round =>
    obtain ⟨k, hkn, rfl, hrow, hres, hbe⟩ := hrel
    by_cases hlt : k < n
    · have hkl : k < l.length := by rw [HLN.out]; exact hlt
      have hel : l[k]? = some (l.getD k 0) := by rw [List.getD, List.getElem?_eq_getElem hkl]; rfl
      have hsucc := tot_succ l hkl
      have hb32 := HL.out _ (List.mem_of_getElem? hel)
      obtain ⟨ad, ea, hadl, hac⟩ := HA.out.2.2 (by omega)
      have hrg : ∀ j v, (By (l.getD k 0) 32)[j]? = some v → wr.cell? ((ad.add (k * 32)).add j) = some v := fun j v hv => (hbe.cell (p := (ad.add (k * 32)).add j) (by rw [add_block, add_block]; exact hadl)).trans (hac k _ hel j v hv)
      generalize l.getD k 0 = x at *
      have hnew := Row.new wr (List.replicate 32 (Value.int .u8 0)) 23
      have hrow1 := hrow.alloc (.cells (List.replicate 32 (Value.int .u8 0)).toArray 23)
      have hres1 := hres.alloc (.cells (List.replicate 32 (Value.int .u8 0)).toArray 23)
      have hw1 : w.heap.size + 1 < wr.heap.size := hrow.lt
      have hbe1 := hbe.alloc (by omega) (.cells (List.replicate 32 (Value.int .u8 0)).toArray 23)
      have hrow2 := hrow1.setRowOther (k := wr.heap.size) (by omega) (By x 32).toArray
      have hres2 := hres1.setRowOther (k := wr.heap.size) (by omega) (By x 32).toArray
      have hbe2 := below_setRow (g := wr.heap.size) hbe1 (by omega) (By x 32).toArray
      have hbx := hnew.setRow (By x 32)
      have hby : (Tryd.prog.info? 23).map (·.size) = some (By x 32).length := by_len x
      have HNEW := Lib.hid hnew
      have HRG := Lib.hid hrg
      have HBY := Lib.hid hby
      have HROW2 := Lib.hid hrow2
      have HRES2 := Lib.hid hres2
      have HBE2 := Lib.hid hbe2
      have HBX := Lib.hid hbx
      have HW1 := Lib.hid hw1
      have HSUC := Lib.hid hsucc
      have HB32 := Lib.hid hb32
      subst ea
      clear hrow hres hbe hkl hel hsucc hrg hadl hac hnew hrow1 hres1 hw1 hbe1 hrow2 hres2 hbe2 hbx hby hb32
      go_upto_region 5 with (first
        | (refine wpList_load_at rfl 23 (.tmp 10) rfl (ad.add (k * 32)) rfl (By x 32) _ HRG.out Tryd.underlying23 rfl HBY.out ?_)
        | (refine wpList_store_row rfl 23 (.tmp 5) (.tmp 11) rfl wr.heap.size _ rfl rfl 23 _ HNEW.out (HS8.out _) (HO8.out _) (By_one _ _) ?_))
      simp only [Act.put]
      change Code.wp _ _ _ _ ((wr.alloc (.cells (List.replicate 32 (Value.int .u8 0)).toArray 23)).setRow wr.heap.size (By x 32).toArray)
      have hsz : wr.heap.size < ((wr.alloc (.cells (List.replicate 32 (Value.int .u8 0)).toArray 23)).setRow wr.heap.size (By x 32).toArray).heap.size := HBX.out.lt
      have HSZ := Lib.hid hsz
      clear hsz
      generalize (wr.alloc (.cells (List.replicate 32 (Value.int .u8 0)).toArray 23)).setRow wr.heap.size (By x 32).toArray = W at *
      have hl0 : Row W.drew (w.heap.size + 1) 36 (Nm (tot l k)) := HROW2.out
      refine wp_region_any (by kernel_rfl) ?_
      change wpAny _ _ _ _ _ _ _ (World.drew _)
      refine wpAny_of_held (S := (fun w' : World => Only (fun k => k = w.heap.size + 1) W w')) _ _ _ _ ?_
      have hHeld := ((Only.refl (fun k => k = w.heap.size + 1) W).drew)
      refine wpAnyH_take (i := 1) (v := ?_) rfl (by kernel_rfl) (by kernel_rfl) (by kernel_rfl) (fun _ _ _ h => h) (Or.inl ⟨by rfl, ?_⟩) hHeld ?_
      rotate_left
      · (intro w' hSw; go_simp; try (with_reducible rfl))
      change wpAnyH _ _ _ _ _ _ _ (Act.put _ (some 13) _) _
      simp only [Act.put, List.setIfInBounds_toArray, List.set_cons_zero, List.set_cons_succ]
      refine wpAnyH_ready (rs := [0, 2]) (by kernel_rfl) (by simp) ?_
      refine AllReadyH.cons rfl (fun K hK => ?_) (AllReadyH.cons rfl (fun K hK => ?_) AllReadyH.nil)
      · rw [if_pos (by kernel_rfl)]
        refine wp_load_row 36 (.tmp 3) rfl (w.heap.size + 1) rfl 36 _ (0, 0) _ hl0 Tryd.underlying36 rfl (HS4.out _) ?_
        refine hK.out _ _ hHeld (fun hHeld => ?_)
        clear hK K
        refine wpAnyH_ready (rs := [2]) (by kernel_rfl) (by simp) ?_
        refine AllReadyH.cons rfl (fun K hK => ?_) AllReadyH.nil
        rw [if_pos (by kernel_rfl)]
        go_simp
        refine (read_by x 32 wr.heap.size _ _ (by decide) HB32.out (HBX.out.only hHeld (by have := HW1.out; show ¬ _ = w.heap.size + 1; omega))).mono ?_
        rintro e w_0_c0 ⟨rfl, hbw_0_c0⟩
        have hlw_0_c0 := hl0.belowAll hbw_0_c0
        refine hK.out _ _ (hHeld.trans (Only.of_below hbw_0_c0 _) (fun _ _ h => h)) (fun hHeld => ?_)
        clear hK K
        refine wpAnyH_ready (rs := [3]) (by kernel_rfl) (by simp) ?_
        refine AllReadyH.cons rfl (fun K hK => ?_) AllReadyH.nil
        rw [if_pos (by kernel_rfl)]
        go_simp
        refine (plus_any (tot l k) x _).mono ?_
        rintro e w_0_c1 ⟨rfl, hbw_0_c1⟩
        have hlw_0_c1 := hlw_0_c0.belowAll hbw_0_c1
        refine hK.out _ _ (hHeld.trans (Only.of_below hbw_0_c1 _) (fun _ _ h => h)) (fun hHeld => ?_)
        clear hK K
        refine wpAnyH_ready (rs := [4]) (by kernel_rfl) (by simp) ?_
        refine AllReadyH.cons rfl (fun K hK => ?_) AllReadyH.nil
        rw [if_pos (by kernel_rfl)]
        refine wp_store_row 36 (.tmp 3) (.tmp 15) rfl (w.heap.size + 1) (Nm (tot l k + x)).toArray rfl rfl 36 _ hlw_0_c1 (HS4.out _) rfl (Nm_one _) ?_
        have hs2 := hlw_0_c1.setRow (Nm (tot l k + x))
        refine hK.out _ _ (hHeld.setRow (.inl rfl)) (fun hHeld => ?_)
        clear hK K
        refine wpAnyH_done (by kernel_rfl) ?_ _
        rw [← HSUC.out] at hs2 hHeld
        have hres5 := HRES2.out.only hHeld (by show ¬ _ = w.heap.size + 1; omega)
        have hbe5 : Below w.heap.size w _ := HBE2.out.trans (hHeld.below (by have := HSZ.out; have := HW1.out; omega) (fun k e => by subst e; omega))
        have HROW5 := Lib.hid hs2
        have HRES5 := Lib.hid hres5
        have HBE5 := Lib.hid hbe5
        clear hs2 hres5 hbe5 hHeld
        rw [← HSUC.out]
        go_wp2_with fail
        go_roundw
        case rel => exact ⟨k + 1, by omega, by go_num, HROW5.out, HRES5.out, HBE5.out⟩
        case measure => simp [intOf] <;> omega
      · rw [if_pos (by kernel_rfl)]
        go_simp
        refine (read_by x 32 wr.heap.size _ _ (by decide) HB32.out (HBX.out.only hHeld (by have := HW1.out; show ¬ _ = w.heap.size + 1; omega))).mono ?_
        rintro e w_2_c0 ⟨rfl, hbw_2_c0⟩
        have hlw_2_c0 := hl0.belowAll hbw_2_c0
        refine hK.out _ _ (hHeld.trans (Only.of_below hbw_2_c0 _) (fun _ _ h => h)) (fun hHeld => ?_)
        clear hK K
        refine wpAnyH_ready (rs := [0]) (by kernel_rfl) (by simp) ?_
        refine AllReadyH.cons rfl (fun K hK => ?_) AllReadyH.nil
        rw [if_pos (by kernel_rfl)]
        refine wp_load_row 36 (.tmp 3) rfl (w.heap.size + 1) rfl 36 _ (0, 0) _ hlw_2_c0 Tryd.underlying36 rfl (HS4.out _) ?_
        refine hK.out _ _ hHeld (fun hHeld => ?_)
        clear hK K
        refine wpAnyH_ready (rs := [3]) (by kernel_rfl) (by simp) ?_
        refine AllReadyH.cons rfl (fun K hK => ?_) AllReadyH.nil
        rw [if_pos (by kernel_rfl)]
        go_simp
        refine (plus_any (tot l k) x _).mono ?_
        rintro e w_2_c1 ⟨rfl, hbw_2_c1⟩
        have hlw_2_c1 := hlw_2_c0.belowAll hbw_2_c1
        refine hK.out _ _ (hHeld.trans (Only.of_below hbw_2_c1 _) (fun _ _ h => h)) (fun hHeld => ?_)
        clear hK K
        refine wpAnyH_ready (rs := [4]) (by kernel_rfl) (by simp) ?_
        refine AllReadyH.cons rfl (fun K hK => ?_) AllReadyH.nil
        rw [if_pos (by kernel_rfl)]
        refine wp_store_row 36 (.tmp 3) (.tmp 15) rfl (w.heap.size + 1) (Nm (tot l k + x)).toArray rfl rfl 36 _ hlw_2_c1 (HS4.out _) rfl (Nm_one _) ?_
        have hs2 := hlw_2_c1.setRow (Nm (tot l k + x))
        refine hK.out _ _ (hHeld.setRow (.inl rfl)) (fun hHeld => ?_)
        clear hK K
        refine wpAnyH_done (by kernel_rfl) ?_ _
        rw [← HSUC.out] at hs2 hHeld
        have hres5 := HRES2.out.only hHeld (by show ¬ _ = w.heap.size + 1; omega)
        have hbe5 : Below w.heap.size w _ := HBE2.out.trans (hHeld.below (by have := HSZ.out; have := HW1.out; omega) (fun k e => by subst e; omega))
        have HROW5 := Lib.hid hs2
        have HRES5 := Lib.hid hres5
        have HBE5 := Lib.hid hbe5
        clear hs2 hres5 hbe5 hHeld
        rw [← HSUC.out]
        go_wp2_with fail
        go_roundw
        case rel => exact ⟨k + 1, by omega, by go_num, HROW5.out, HRES5.out, HBE5.out⟩
        case measure => simp [intOf] <;> omega
    · obtain rfl : k = n := by omega
      have hall : tot l k = l.sum := by unfold tot; rw [List.take_of_length_le (by rw [HLN.out]; exact Nat.le_refl _)]
      rw [hall] at hrow
      have hq2 := HQ.out.below hbe HQ.out.lt
      have HROW := Lib.hid hrow
      have HRES := Lib.hid hres
      have HBE := Lib.hid hbe
      have HQ2 := Lib.hid hq2
      clear hrow hres hbe hall hq2
      go_wp2_with (refine wpList_load_row rfl 36 (.tmp 3) rfl (w.heap.size + 1) rfl 36 _ (0, 0) _ HROW.out Tryd.underlying36 rfl (HS4.out _) ?_)
      refine (rest_any l.sum HTOT.out _ HQ2.out).mono ?_
      rintro e w5 ⟨rfl, hb5⟩
      have hr5 := HRES.out.belowAll hb5
      have hbe5 := HBE.out.trans (hb5.mono HBE.out.size)
      have HR5 := Lib.hid hr5
      have HBE5 := Lib.hid hbe5
      clear hb5 hr5 hbe5
      go_wp2_with fail
      refine (bytes_any (l.sum % qq) _).mono ?_
      rintro e w6 ⟨rfl, hb6⟩
      have hr6 := HR5.out.belowAll hb6
      have hbe6 := HBE5.out.trans (hb6.mono HBE5.out.size)
      have HR6 := Lib.hid hr6
      have HBE6 := Lib.hid hbe6
      clear hb6 hr6 hbe6
      go_wp2_with (refine wpList_store_row rfl 23 (.tmp 2) (.tmp 19) rfl w.heap.size _ rfl rfl 23 _ HR6.out (HS8.out _) (HO8.out _) (By_one _ _) ?_)
      have hgot := setRow_heap w6 w.heap.size _ (By (l.sum % qq) 32).toArray _ _ HR6.out
      refine bodyPost_ret (results_cell_row (by rfl) _ _ w.heap.size _ _ _ _ (by rfl) hgot Tryd.underlying23 rfl (HS8.out _)) rfl ?_
      exact ⟨rfl, below_setRow HBE6.out (by omega) _⟩

end Go.Proofs.YtklbcpaoccdmeaaDoor
