/- The sum of any numbers: the law's own walk. -/
import Derived.Test.YtklbcpaoccdmeaaDoorSumG
import Derived.Test.YtklbcpaoccdmeaaDoorNegsW
import Derived.Laws.BitsAllLaws
import Derived.Deep.CutRange
import Derived.Deep.CutBlock
import Derived.RegionTactic
import Derived.Lib.Hide
import Derived.IntWalk
namespace Go.Proofs.YtklbcpaoccdmeaaDoor
set_option maxRecDepth 100000
open Go.RowKit

set_option linter.unusedSimpArgs false
theorem want_next (l : List Nat) {k : Nat} (h : k < l.length) : mulq 1 (l.getD k 0) (tot l k % qq) = tot l (k + 1) % qq := by
  rw [tot_succ l h]
  unfold mulq
  rw [Nat.one_mul, Nat.add_mod_mod, Nat.add_comm]
theorem sum_all (l : List Nat) : sumq l = tot l l.length % qq := by
  unfold sumq tot
  rw [List.take_length]
theorem sum_gen_q (l : List Nat) (A : Option Addr) (n cap : Nat) (w : World) (ha : RdA w A n l) (hn : n ≤ 9223372036854775807) (hq : Qt w) :
    Calls Tryd.prog 16 #[.slice A n cap] w fun e w' => e = .returned (.agg (By (sumq l) 32).toArray) ∧ Below w.heap.size w w' := sum_gen l A n cap w ha hn hq

set_option maxHeartbeats 6400000 in
theorem sums_law (l : List Nat) (A : Option Addr) (n cap : Nat) (w : World) (ha : RdA w A n l) (hq : Qt w) :
    Calls Tryd.prog 6 #[.slice A n cap] w fun e w' => e = .returned (.bool true) ∧ Below w.heap.size w w' := by
  by_cases h40 : 40 < n
  · have b1 : (40 : Int) < (n : Int) := by omega
    have HQ := Lib.hid hq
    clear ha hq
    go_enter Tryd.func6, Tryd.ntmps6
    go_wp2_with fail
    refine (awake_any _ HQ.out).mono ?_
    rintro e W5 ⟨rfl, hb5⟩
    have HBE5 := Lib.hid hb5
    clear hb5
    go_wp2_with fail
    go_ret
    exact ⟨rfl, HBE5.out⟩
  have b1 : (n : Int) ≤ 40 := by omega
  have hS8 : ∀ x, (Tryd.prog.info? 23).map (·.size) = some (By x 32).toArray.size := by_info
  have hO8 : ∀ x y, (By x 32).toArray.size = (By y 32).toArray.size := fun x y => by rw [List.size_toArray, List.size_toArray, By_length, By_length]
  have hL8 : ∀ x, (Tryd.prog.info? 23).map (·.size) = some (By x 32).length := by_len
  have B1 : ∀ w, (Instr.build 23 #[(0, .int .u8 1)]).run Tryd.prog w = .ok (.agg (By 1 32).toArray) w := fun w => by rw [By_1a]; exact build1 1 w
  have HA := Lib.hid ha
  have HQ := Lib.hid hq
  have HS8 := Lib.hid hS8
  have HO8 := Lib.hid hO8
  have HL8 := Lib.hid hL8
  have hln := ha.1
  have HLN := Lib.hid hln
  have hlt := ha.2.1
  have HLT := Lib.hid hlt
  clear ha hq hS8 hO8 hL8 hln hlt
  go_enter Tryd.func6, Tryd.ntmps6
  go_wp2_with fail
  go_loopw [4] (fun i wr => ∃ k : Nat, k ≤ n ∧ i = .int .i64 k ∧ Row wr w.heap.size 23 (By (tot l k % qq) 32) ∧ Below w.heap.size w wr) (fun i _ => n - (intOf i).toNat)
  case atStart =>
    refine ⟨0, Nat.zero_le _, rfl, ?_, (Below.refl _ _).alloc (Nat.le_refl _) _⟩
    rw [show tot l 0 % qq = 0 from Nat.zero_mod _, By_zero]
    exact Row.new w (List.replicate 32 (Value.int .u8 0)) _
  case round =>
    obtain ⟨k, hkn, rfl, hrow, hbe⟩ := hrel
    by_cases hlt : k < n
    · have hkl : k < l.length := by rw [HLN.out]; exact hlt
      have hel : l[k]? = some (l.getD k 0) := by rw [List.getD, List.getElem?_eq_getElem hkl]; rfl
      have hnext := want_next l hkl
      have hb32 := HLT.out _ (List.mem_of_getElem? hel)
      obtain ⟨ad, ea, hadl, hac⟩ := HA.out.2.2 (by omega)
      have hrg : ∀ j v, (By (l.getD k 0) 32)[j]? = some v → wr.cell? ((ad.add (k * 32)).add j) = some v := fun j v hv => (hbe.cell (p := (ad.add (k * 32)).add j) (by rw [add_block, add_block]; exact hadl)).trans (hac k _ hel j v hv)
      generalize l.getD k 0 = x at *
      have hwl : w.heap.size < wr.heap.size := hrow.lt
      have HRG := Lib.hid hrg
      have HADL := Lib.hid hadl
      have HB32 := Lib.hid hb32
      have HNEXT := Lib.hid hnext
      have HROW := Lib.hid hrow
      have HBE := Lib.hid hbe
      have HWL := Lib.hid hwl
      subst ea
      clear hkl hel hnext hb32 hadl hac hrg hrow hbe hwl
      generalize hW : tot l k % qq = want at *
      have hwant : want < 256 ^ 32 := by rw [← hW]; exact r_lt _
      have HWANT := Lib.hid hwant
      clear hW hwant
      go_upto_region 7 with fail
      have hl0 : Row wr.drew w.heap.size 23 (By want 32) := HROW.out
      refine wp_region_any (by kernel_rfl) ?_
      change wpAny _ _ _ _ _ _ _ (World.drew _)
      refine wpAny_of_held (S := (fun w' : World => Only (fun k => k = w.heap.size) wr w')) _ _ _ _ ?_
      have hHeld := ((Only.refl (fun k => k = w.heap.size) wr).drew)
      refine wpAnyH_take (i := 0) (v := ?_) rfl (by kernel_rfl) (by kernel_rfl) (by kernel_rfl) (fun _ _ _ h => h) (Or.inl ⟨by rfl, ?_⟩) hHeld ?_
      rotate_left
      · (intro w' hSw; go_simp; try (with_reducible rfl))
      change wpAnyH _ _ _ _ _ _ _ (Act.put _ (some 15) _) _
      simp only [Act.put, List.setIfInBounds_toArray, List.set_cons_zero, List.set_cons_succ]
      refine wpAnyH_take (i := 1) (v := ?_) rfl (by kernel_rfl) (by kernel_rfl) (by kernel_rfl) (fun _ _ _ h => h) (Or.inl ⟨by rfl, ?_⟩) hHeld ?_
      rotate_left
      · (intro w' hSw; go_simp; try (with_reducible rfl))
      change wpAnyH _ _ _ _ _ _ _ (Act.put _ (some 16) _) _
      simp only [Act.put, List.setIfInBounds_toArray, List.set_cons_zero, List.set_cons_succ]
      refine wpAnyH_take (i := 2) (v := ?_) rfl (by kernel_rfl) (by kernel_rfl) (by kernel_rfl) (fun _ _ _ h => h) (Or.inl ⟨by rfl, ?_⟩) hHeld ?_
      rotate_left
      · (intro w' hSw; go_simp; try (with_reducible rfl))
      change wpAnyH _ _ _ _ _ _ _ (Act.put _ (some 17) _) _
      simp only [Act.put, List.setIfInBounds_toArray, List.set_cons_zero, List.set_cons_succ]
      refine wpAnyH_take (i := 3) (v := ?_) rfl (by kernel_rfl) (by kernel_rfl) (by kernel_rfl) (fun _ _ _ h => h) (Or.inl ⟨by rfl, ?_⟩) hHeld ?_
      rotate_left
      · (intro w' hSw; go_simp; try (with_reducible rfl))
      change wpAnyH _ _ _ _ _ _ _ (Act.put _ (some 18) _) _
      simp only [Act.put, List.setIfInBounds_toArray, List.set_cons_zero, List.set_cons_succ]
      refine wpAnyH_take (i := 4) (v := .agg (By x 32).toArray) rfl (by kernel_rfl) (by kernel_rfl) (by kernel_rfl) (fun _ _ _ h => h) (yieldsIf_load_at (by rfl) 23 (.tmp 18) rfl (ad.add (k * 32)) rfl (By x 32) _ (fun w' hSw j v hv => (hSw.cell (a := (ad.add (k * 32)).add j) (by rw [add_block, add_block]; show ¬ _ = w.heap.size; have := HADL.out; omega) (by rw [add_block, add_block]; have := HADL.out; have := HBE.out.size; omega)).trans (HRG.out j v hv)) (by rfl) rfl (HL8.out _)) hHeld ?_
      change wpAnyH _ _ _ _ _ _ _ (Act.put _ (some 19) _) _
      simp only [Act.put, List.setIfInBounds_toArray, List.set_cons_zero, List.set_cons_succ]
      refine wpAnyH_ready (rs := [5]) (by kernel_rfl) (by simp) ?_
      refine AllReadyH.cons rfl (fun K hK => ?_) AllReadyH.nil
      rw [if_pos (by kernel_rfl)]
      refine wp_load_row 23 (.tmp 3) rfl w.heap.size rfl 23 _ (0, 0) _ hl0 Tryd.underlying23 rfl (HS8.out _) ?_
      refine hK.out _ _ hHeld (fun hHeld => ?_)
      clear hK K
      refine wpAnyH_ready (rs := [6]) (by kernel_rfl) (by simp) ?_
      refine AllReadyH.cons rfl (fun K hK => ?_) AllReadyH.nil
      rw [if_pos (by kernel_rfl)]
      go_simp
      refine (muladd_doc 1 x want (n_lt (by decide)) HB32.out HWANT.out _).mono ?_
      rintro e w_c0 ⟨rfl, hbw_c0⟩
      have hlw_c0 := hl0.belowAll hbw_c0
      refine hK.out _ _ (hHeld.trans (Only.of_below hbw_c0 _) (fun _ _ h => h)) (fun hHeld => ?_)
      clear hK K
      refine wpAnyH_ready (rs := [7]) (by kernel_rfl) (by simp) ?_
      refine AllReadyH.cons rfl (fun K hK => ?_) AllReadyH.nil
      rw [if_pos (by kernel_rfl)]
      refine wp_store_row 23 (.tmp 3) (.tmp 21) rfl w.heap.size (By (mulq 1 x want) 32).toArray rfl rfl 23 _ hlw_c0 (HS8.out _) (HO8.out _ _) (By_one _ _) ?_
      have hs1 := hlw_c0.setRow (By (mulq 1 x want) 32)
      refine hK.out _ _ (hHeld.setRow (.inl rfl)) (fun hHeld => ?_)
      clear hK K
      refine wpAnyH_done (by kernel_rfl) ?_ _
      have hbe5 : Below w.heap.size w _ := HBE.out.trans (hHeld.below HBE.out.size (fun k e => by subst e; exact Nat.le_refl _))
      rw [HNEXT.out] at hs1 hbe5
      have HROW5 := Lib.hid hs1
      have HBE5 := Lib.hid hbe5
      clear hs1 hbe5 hHeld
      rw [HNEXT.out]
      go_wp2_with fail
      go_roundw
      case rel => exact ⟨k + 1, by omega, by go_num, HROW5.out, HBE5.out⟩
      case measure => simp [intOf] <;> omega
    · obtain rfl : k = n := by omega
      have hend : sumq l = tot l k % qq := by rw [sum_all, HLN.out]
      have hrd := HA.out.below (Nat.le_refl _) hbe
      have hq2 := HQ.out.below hbe HQ.out.lt
      have HEND := Lib.hid hend
      have HROW := Lib.hid hrow
      have HBE := Lib.hid hbe
      have HRD := Lib.hid hrd
      have HQ2 := Lib.hid hq2
      clear hend hrow hbe hrd hq2
      generalize tot l k % qq = want at *
      go_upto_region 8 with fail
      refine wp_region_any (by kernel_rfl) ?_
      change wpAny _ _ _ _ _ _ _ (World.drew _)
      refine wpAny_of_held (S := (fun w' : World => Below wr.heap.size wr w')) _ _ _ _ ?_
      have hHeld := ((Below.refl wr.heap.size wr).drew)
      refine wpAnyH_take (i := 0) (v := ?_) rfl (by kernel_rfl) (by kernel_rfl) (by kernel_rfl) (fun _ _ _ h => h) (Or.inl ⟨by rfl, ?_⟩) hHeld ?_
      rotate_left
      · (intro w' hSw; go_simp; try (with_reducible rfl))
      change wpAnyH _ _ _ _ _ _ _ (Act.put _ (some 22) _) _
      simp only [Act.put, List.setIfInBounds_toArray, List.set_cons_zero, List.set_cons_succ]
      refine wpAnyH_take (i := 2) (v := .agg (By want 32).toArray) rfl (by kernel_rfl) (by kernel_rfl) (by kernel_rfl) (fun _ _ _ h => h) (yieldsIf_load_mid (by rfl) 23 (.tmp 3) rfl w.heap.size 0 rfl (By want 32) _ (fun w' hSw => (HROW.out.belowAll hSw).range) (by rfl) rfl (HL8.out _)) hHeld ?_
      change wpAnyH _ _ _ _ _ _ _ (Act.put _ (some 24) _) _
      simp only [Act.put, List.setIfInBounds_toArray, List.set_cons_zero, List.set_cons_succ]
      refine wpAnyH_ready (rs := [1]) (by kernel_rfl) (by simp) ?_
      refine AllReadyH.cons rfl (fun K hK => ?_) AllReadyH.nil
      rw [if_pos (by kernel_rfl)]
      go_simp
      refine (sum_gen_q l A k cap _ (HRD.out.below (Nat.le_refl _) hHeld) (by omega) (HQ2.out.below hHeld HQ2.out.lt)).mono ?_
      rintro e w_c0 ⟨rfl, hbw_c0⟩
      refine hK.out _ _ (hHeld.trans (hbw_c0.mono hHeld.size)) (fun hHeld => ?_)
      clear hK K
      refine wpAnyH_take (i := 3) (v := .bool true) rfl (by kernel_rfl) (by kernel_rfl) (by kernel_rfl) (fun _ _ _ h => h) (yieldsIf_binop (by rfl) .eql 23 23 (.tmp 23) (.tmp 24) rfl (.agg (By (sumq l) 32).toArray) (.agg (By want 32).toArray) (.bool true) rfl rfl (bgrd _ _ _ _ _) (beq_same HEND.out)) hHeld ?_
      change wpAnyH _ _ _ _ _ _ _ (Act.put _ (some 25) _) _
      simp only [Act.put, List.setIfInBounds_toArray, List.set_cons_zero, List.set_cons_succ]
      refine wpAnyH_take (i := 4) (v := ?_) rfl (by kernel_rfl) (by kernel_rfl) (by kernel_rfl) (fun _ _ _ h => h) (Or.inl ⟨by rfl, ?_⟩) hHeld ?_
      rotate_left
      · (intro w' hSw; go_simp; try (with_reducible rfl))
      change wpAnyH _ _ _ _ _ _ _ (Act.put _ (some 26) _) _
      simp only [Act.put, List.setIfInBounds_toArray, List.set_cons_zero, List.set_cons_succ]
      refine wpAnyH_ready (rs := [5]) (by kernel_rfl) (by simp) ?_
      refine AllReadyH.cons rfl (fun K hK => ?_) AllReadyH.nil
      rw [if_pos (by kernel_rfl)]
      go_simp
      refine (awake_any _ (HQ2.out.below hHeld HQ2.out.lt)).mono ?_
      rintro e w_c1 ⟨rfl, hbw_c1⟩
      refine hK.out _ _ (hHeld.trans (hbw_c1.mono hHeld.size)) (fun hHeld => ?_)
      clear hK K
      refine wpAnyH_take (i := 6) (v := ?_) rfl (by kernel_rfl) (by kernel_rfl) (by kernel_rfl) (fun _ _ _ h => h) (Or.inl ⟨by rfl, ?_⟩) hHeld ?_
      rotate_left
      · (intro w' hSw; go_simp; try (with_reducible rfl))
      change wpAnyH _ _ _ _ _ _ _ (Act.put _ (some 28) _) _
      simp only [Act.put, List.setIfInBounds_toArray, List.set_cons_zero, List.set_cons_succ]
      refine wpAnyH_take (i := 7) (v := ?_) rfl (by kernel_rfl) (by kernel_rfl) (by kernel_rfl) (fun _ _ _ h => h) (Or.inl ⟨by rfl, ?_⟩) hHeld ?_
      rotate_left
      · (intro w' hSw; go_simp; try (with_reducible rfl))
      change wpAnyH _ _ _ _ _ _ _ (Act.put _ (some 2) _) _
      simp only [Act.put, List.setIfInBounds_toArray, List.set_cons_zero, List.set_cons_succ]
      refine wpAnyH_done (by kernel_rfl) ?_ _
      have HF := Lib.hid hHeld
      clear hHeld
      go_wp2_with fail
      go_ret
      exact ⟨rfl, HBE.out.trans (HF.out.mono HBE.out.size)⟩
end Go.Proofs.YtklbcpaoccdmeaaDoor
