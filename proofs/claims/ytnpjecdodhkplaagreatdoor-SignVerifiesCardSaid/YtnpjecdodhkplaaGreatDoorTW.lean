/- sgn/Vw -/
import Derived.Test.YtnpjecdodhkplaaGreatDoorTV
namespace Go.Proofs.YtnpjecdodhkplaaGreatDoor
set_option maxRecDepth 100000
set_option linter.unusedSimpArgs false
set_option linter.unusedVariables false
open List renaming setIfInBounds_toArray → yA, set_cons_zero → yB, set_cons_succ → yC
open Lib renaming hid → yH
section
open Go.RowKit
theorem By_64m (H : Nat) : ∃ F, F < 256 ^ 32 ∧ By H 64 = SL F (H / 256 ^ 32) := by
 have hb : ∀ c ∈ (List.range 32).map (byt H), c < 256 := by
  intro c hc
  obtain ⟨i, _, rfl⟩ := List.mem_map.1 hc
  exact byt_lt H i
 refine ⟨lev ((List.range 32).map (byt H)), ?_, ?_⟩
 ·have := lev_lt hb
  rwa [List.length_map, List.length_range] at this
 ·rw [By_64, SL, SL, By_lev hb (by simp), ← By_map]
theorem eq_bool (b : Bool) (w : World) : (binOp .eql 4 (.bool b) (.bool b)).run Tryz.prog w = .ok (.bool true) w := by cases b <;> rfl
theorem eqg_bool (x y : Operand) (b : Bool) (w : World) : (eqGuard .eql 4 x y (.bool b) (.bool b)).run Tryz.prog w = .ok () w := by first | rfl | (cases b <;> rfl) | (go_simp)
theorem keyL (N : Nat) : (Tryz.prog.info? 27).map (·.size) = some (By N 32).length := by rw [By_length]; kernel_rfl
theorem sigL (n s : Nat) : (Tryz.prog.info? 31).map (·.size) = some (SL n s).length := by rw [SL_length]; kernel_rfl
theorem wp_bOne {o : Oper} {a : Act} {w : World} {K : Act → World → Prop} {Q : Exit → Act → World → Prop} (x : Operand) (ho : o.op = .buildSlice 57 1 #[(0, x)]) (a1 : Option Addr) (n1 c1 : Nat)
  (hx : a.eval x = .slice a1 n1 c1)
  (h : K (a.put o.dst (.slice (some ⟨w.heap.size, 0, none⟩) 1 1)) (w.alloc (.cells #[.slice a1 n1 c1] 24))) : o.wp Tryz.prog a w K Q := by
 have hi : Tryz.prog.info? 24 = some (Tryz.prog.info? 24).get! := by kernel_rfl
 have hz : (Tryz.prog.info? 24).get!.zero = some (.slice none 0 0) := by kernel_rfl
 have hsz : (Tryz.prog.info? 24).get!.size = 1 := by kernel_rfl
 refine wp_buildSlice 57 24 1 _ ho #[.slice a1 n1 c1] _ _ Tryz.underlying57 hi hz (by rw [hsz]; decide) (by rw [hsz]; decide) ?_ h
 rw [hsz]
 simp only [List.map_toArray, List.map_cons, List.map_nil, hx]
 kernel_rfl
set_option maxHeartbeats 12800000 in
theorem ver_law (Y F S : Nat) (hF : F < 256 ^ 32) (hS : S < 256 ^ 32) (la : List Nat) {A1 : Option Addr} {n1 c1 : Nat} (w : World) (hw : Sv w) (ha : ∀ x ∈ la, x < 256) (ra : Rd w (fun _ => True) A1 n1 (N8 la)) :
  Calls Tryz.prog 4 #[.agg (By Y 32).toArray, .agg (SL F S).toArray, .slice A1 n1 c1] w fun e w' => e = .returned (.bool true) ∧ Below w.heap.size w w' := by
 have hk := (Row.new w (By Y 32) 27).alloc (.cells (SL F S).toArray 31)
 have hg := Row.new1 w (.cells (By Y 32).toArray 27) (SL F S) 31
 have hW := Below.alloc2 w (.cells (By Y 32).toArray 27) (.cells (SL F S).toArray 31)
 have HV := yH (hw.belowAll hW)
 have HW := yH hW
 have HK := yH hk
 have HG := yH hg
 have HRA := yH (ra.belowAll hW)
 have HA := yH ha
 have hl1 : la.length = n1 := by have := ra.1; rwa [N8_len] at this
 have HL1 := yH hl1
 have HF := yH hF
 have HS := yH hS
 clear hw ha ra hk hg hW hl1 hF hS
 go_enter Tryz.func4, Tryz.ntmps4
 go_wp2_with fail
 generalize (w.alloc (.cells (By Y 32).toArray 27)).alloc (.cells (SL F S).toArray 31) = W at *
 by_cases hg1 : 300 < n1
 ·have hgr := gr_any A1 n1 c1 W
  rw [decide_eq_true hg1] at hgr
  refine hgr.mono ?_
  rintro e w1 ⟨rfl, hww⟩
  subst hww
  go_wp2_with fail
  refine (aw_any _ HV.out).mono ?_
  rintro e w2 ⟨rfl, hb⟩
  have HW2 := yH (HW.out.trans (hb.mono HW.out.size))
  clear hb
  go_wp2_with fail
  go_ret
  exact ⟨rfl, HW2.out⟩
 ·have hgr := gr_any A1 n1 c1 W
  rw [decide_eq_false hg1] at hgr
  refine hgr.mono ?_
  rintro e W ⟨rfl, hww⟩
  subst hww
  clear hgr
  go_wp2_with (refine wpList_load_row rfl 27 (.tmp 3) rfl w.heap.size rfl 27 _ (0, 0) _ HK.out Tryz.underlying27 rfl (key_info _) ?_)
  refine (dr_ref Y _).mono ?_
  rintro e w2 ⟨⟨rr, rfl⟩, hb⟩
  have hz := rl_zero_row w2
  have hb2 := below_setRow (g := w2.heap.size) (hb.alloc hb.size (.cells #[.int .u32 0, .int .u32 0, .int .u32 0, .int .u32 0, .int .u32 0, .int .u32 0, .int .u32 0, .int .u32 0, .int .u32 0, .int .u32 0, .int .u32 0, .int .u32 0, .int .u32 0, .int .u32 0, .int .u32 0, .int .u32 0, .int .u32 0, .int .u32 0, .int .u32 0, .int .u32 0, .int .u32 0, .int .u32 0, .int .u32 0, .int .u32 0] 39)) hb.size (RL rr).toArray
  have HZ := yH hz
  have HV2 := yH (HV.out.belowAll hb2)
  have HW2 := yH (HW.out.trans (hb2.mono HW.out.size))
  have HK2 := yH (HK.out.belowAll hb2)
  have HG2 := yH (HG.out.belowAll hb2)
  have HRA2 := yH (HRA.out.belowAll hb2)
  clear hb hz hb2 HV HW HK HG HRA
  go_upto_region 4 with (refine wpList_store_row rfl 39 (.tmp 7) (.tmp 15) rfl w2.heap.size _ rfl rfl 39 _ HZ.out (rl_info _) (RL_sz _ _) (RL_one _) ?_)
  have hv := HV2.out
  have hw := HW2.out
  have hk := HK2.out
  have hg := HG2.out
  have hr := HRA2.out
  clear HV2 HW2 HK2 HG2 HRA2 HZ
  change Code.wp _ _ _ _ ((w2.alloc (.cells #[.int .u32 0, .int .u32 0, .int .u32 0, .int .u32 0, .int .u32 0, .int .u32 0, .int .u32 0, .int .u32 0, .int .u32 0, .int .u32 0, .int .u32 0, .int .u32 0, .int .u32 0, .int .u32 0, .int .u32 0, .int .u32 0, .int .u32 0, .int .u32 0, .int .u32 0, .int .u32 0, .int .u32 0, .int .u32 0, .int .u32 0, .int .u32 0] 39)).setRow w2.heap.size (RL rr).toArray)
  generalize (w2.alloc (.cells #[.int .u32 0, .int .u32 0, .int .u32 0, .int .u32 0, .int .u32 0, .int .u32 0, .int .u32 0, .int .u32 0, .int .u32 0, .int .u32 0, .int .u32 0, .int .u32 0, .int .u32 0, .int .u32 0, .int .u32 0, .int .u32 0, .int .u32 0, .int .u32 0, .int .u32 0, .int .u32 0, .int .u32 0, .int .u32 0, .int .u32 0, .int .u32 0] 39)).setRow w2.heap.size (RL rr).toArray = W3 at *
  generalize w2.heap.size = g7 at *
  have HV := yH hv
  have HW := yH hw
  have HK := yH hk
  have HG := yH hg
  have HR := yH hr
  clear hv hw hk hg hr
  have hl6 : la.length < 1000000 := by rw [HL1.out]; omega
  have hn6 : n1 ≤ 1000 := by omega
  have hvf := fun w hw vs ps A m c r p hm (hl : ps.flatten = la) => vf_any Y F S HF.out HS.out (vs := vs) (ps := ps) (A := A) (m := m) (c := c) w hw r p hm (hl ▸ hl6)
  have hvr := fun w h => vf_ref Y F S HF.out HS.out la (A := A1) (m := n1) (c := c1) w HA.out h hn6
  have hvf2 : ∀ w, Sv w → ∀ vs ps A m c, Rd w (fun _ => True) A m vs → Parts w (fun _ => True) vs ps → m ≤ 1000 → ps.flatten = la → Calls Tryz.prog 13 #[.agg (By Y 32).toArray, .agg (SL F S).toArray, .slice A m c] w fun e w' => e = .returned (.bool (vfB Y F S la)) ∧ Below w.heap.size w w' := by
   intro w hw vs ps A m c r p hm hl
   have h := hvf w hw vs ps A m c r p hm hl
   rwa [hl] at h
  have hkn := fun w hw => kn_any Y w hw
  clear hvf
  generalize vfB Y F S la = b1 at *
  generalize decOk Y = b2 at *
  have HVF := yH hvf2
  have HVR := yH hvr
  have HKN := yH hkn
  clear hl6 hvf2 hvr hkn
  refine wp_region_any (by kernel_rfl) ?_
  change wpAny _ _ _ _ _ _ _ (World.drew _)
  refine wpAny_of_held (S := (fun w' : World => Below W3.heap.size W3 w')) _ _ _ _ ?_
  have hHeld := ((Below.refl W3.heap.size W3).drew)
  refine wpAnyH_take (i := 0) (v := .agg (By Y 32).toArray) rfl (by kernel_rfl) (by kernel_rfl) (by kernel_rfl) (fun _ _ _ h => h) (yieldsIf_load_mid (by rfl) 27 (.tmp 3) rfl w.heap.size 0 rfl (By Y 32) _ (fun w' hSw => (HK.out.belowAll hSw).range) Tryz.underlying27 rfl (keyL _)) hHeld ?_
  change wpAnyH _ _ _ _ _ _ _ (Act.put _ (some 17) _) _
  simp only [Act.put, yA, yB, yC]
  refine wpAnyH_take (i := 1) (v := .agg (SL F S).toArray) rfl (by kernel_rfl) (by kernel_rfl) (by kernel_rfl) (fun _ _ _ h => h) (yieldsIf_load_mid (by rfl) 31 (.tmp 4) rfl (w.heap.size + 1) 0 rfl (SL F S) _ (fun w' hSw => (HG.out.belowAll hSw).range) Tryz.underlying31 rfl (sigL _ _)) hHeld ?_
  change wpAnyH _ _ _ _ _ _ _ (Act.put _ (some 18) _) _
  simp only [Act.put, yA, yB, yC]
  refine wpAnyH_take (i := 2) (v := ?_) rfl (by kernel_rfl) (by kernel_rfl) (by kernel_rfl) (fun _ _ _ h => h) (Or.inl ⟨by rfl, ?_⟩) hHeld ?_
  rotate_left
  ·(intro w' hSw; go_simp; try (with_reducible rfl))
  change wpAnyH _ _ _ _ _ _ _ (Act.put _ (some 19) _) _
  simp only [Act.put, yA, yB, yC]
  refine wpAnyH_take (i := 5) (v := .agg (By Y 32).toArray) rfl (by kernel_rfl) (by kernel_rfl) (by kernel_rfl) (fun _ _ _ h => h) (yieldsIf_load_mid (by rfl) 27 (.tmp 3) rfl w.heap.size 0 rfl (By Y 32) _ (fun w' hSw => (HK.out.belowAll hSw).range) Tryz.underlying27 rfl (keyL _)) hHeld ?_
  change wpAnyH _ _ _ _ _ _ _ (Act.put _ (some 22) _) _
  simp only [Act.put, yA, yB, yC]
  refine wpAnyH_take (i := 6) (v := .agg (SL F S).toArray) rfl (by kernel_rfl) (by kernel_rfl) (by kernel_rfl) (fun _ _ _ h => h) (yieldsIf_load_mid (by rfl) 31 (.tmp 4) rfl (w.heap.size + 1) 0 rfl (SL F S) _ (fun w' hSw => (HG.out.belowAll hSw).range) Tryz.underlying31 rfl (sigL _ _)) hHeld ?_
  change wpAnyH _ _ _ _ _ _ _ (Act.put _ (some 23) _) _
  simp only [Act.put, yA, yB, yC]
  refine wpAnyH_take (i := 7) (v := ?_) rfl (by kernel_rfl) (by kernel_rfl) (by kernel_rfl) (fun _ _ _ h => h) (Or.inl ⟨by rfl, ?_⟩) hHeld ?_
  rotate_left
  ·(intro w' hSw; go_simp; try (with_reducible rfl))
  change wpAnyH _ _ _ _ _ _ _ (Act.put _ (some 24) _) _
  simp only [Act.put, yA, yB, yC]
  refine wpAnyH_ready (rs := [3]) (by kernel_rfl) (by simp) ?_
  refine AllReadyH.cons rfl (fun K hK => ?_) AllReadyH.nil
  rw [if_pos (by kernel_rfl)]
  refine wp_bOne (.tmp 19) rfl A1 n1 c1 rfl ?_
  have hal := hHeld.alloc hHeld.size (.cells #[.slice A1 n1 c1] 24)
  refine hK.out _ _ hal (fun hHeld => ?_)
  clear hK K
  have hpp := Parts.one (c := c1) HA.out (HR.out.belowAll hHeld)
  have hsv := HV.out.belowAll hHeld
  have hcall := HVF.out _ hsv _ _ _ 1 1 one_row hpp (by decide) (by simp)
  clear hpp hsv hal
  refine wpAnyH_ready (rs := [4]) (by kernel_rfl) (by simp) ?_
  refine AllReadyH.cons rfl (fun K hK => ?_) AllReadyH.nil
  rw [if_pos (by kernel_rfl)]
  go_simp
  refine hcall.mono ?_
  rintro e w4 ⟨rfl, hb⟩
  refine hK.out _ _ (hHeld.trans (hb.mono hHeld.size)) (fun hHeld => ?_)
  clear hK K
  clear hcall hb
  refine wpAnyH_ready (rs := [8]) (by kernel_rfl) (by simp) ?_
  refine AllReadyH.cons rfl (fun K hK => ?_) AllReadyH.nil
  rw [if_pos (by kernel_rfl)]
  go_simp
  refine (HVR.out _ (HR.out.belowAll hHeld)).mono ?_
  rintro e w5 ⟨rfl, hb⟩
  refine hK.out _ _ (hHeld.trans (hb.mono hHeld.size)) (fun hHeld => ?_)
  clear hK K
  clear hb
  refine tg 9 26 rfl rfl (by kernel_rfl) (fun _ _ _ h => h) (by rfl) hHeld (fun w' hSw => ex_bin .eql 4 4 (.tmp 21) (.tmp 25) rfl _ _ _ rfl rfl (eqg_bool _ _ _ w') (eq_bool b1 w')) ?_
  simp only [Act.put, yA, yB, yC]
  refine wpAnyH_take (i := 10) (v := ?_) rfl (by kernel_rfl) (by kernel_rfl) (by kernel_rfl) (fun _ _ _ h => h) (Or.inl ⟨by rfl, ?_⟩) hHeld ?_
  rotate_left
  ·(intro w' hSw; go_simp; try (with_reducible rfl))
  change wpAnyH _ _ _ _ _ _ _ (Act.put _ (some 27) _) _
  simp only [Act.put, yA, yB, yC]
  refine wpAnyH_take (i := 11) (v := .agg (By Y 32).toArray) rfl (by kernel_rfl) (by kernel_rfl) (by kernel_rfl) (fun _ _ _ h => h) (yieldsIf_load_mid (by rfl) 27 (.tmp 3) rfl w.heap.size 0 rfl (By Y 32) _ (fun w' hSw => (HK.out.belowAll hSw).range) Tryz.underlying27 rfl (keyL _)) hHeld ?_
  change wpAnyH _ _ _ _ _ _ _ (Act.put _ (some 28) _) _
  simp only [Act.put, yA, yB, yC]
  refine wpAnyH_take (i := 13) (v := ?_) rfl (by kernel_rfl) (by kernel_rfl) (by kernel_rfl) (fun _ _ _ h => h) (Or.inl ⟨by rfl, ?_⟩) hHeld ?_
  rotate_left
  ·(intro w' hSw; go_simp; try (with_reducible rfl))
  change wpAnyH _ _ _ _ _ _ _ (Act.put _ (some 30) _) _
  simp only [Act.put, yA, yB, yC]
  refine wpAnyH_ready (rs := [12]) (by kernel_rfl) (by simp) ?_
  refine AllReadyH.cons rfl (fun K hK => ?_) AllReadyH.nil
  rw [if_pos (by kernel_rfl)]
  go_simp
  refine (HKN.out _ (HV.out.belowAll hHeld)).mono ?_
  rintro e w6 ⟨rfl, hb⟩
  refine hK.out _ _ (hHeld.trans (hb.mono hHeld.size)) (fun hHeld => ?_)
  clear hK K
  clear hb
  refine tg 14 31 rfl rfl (by kernel_rfl) (fun _ _ _ h => h) (by rfl) hHeld (fun w' hSw => ex_bin .eql 4 4 (.tmp 29) (.tmp 30) rfl _ _ _ rfl rfl (eqg_bool _ _ _ w') (eq_bool b2 w')) ?_
  simp only [Act.put, yA, yB, yC]
  refine wpAnyH_take (i := 15) (v := ?_) rfl (by kernel_rfl) (by kernel_rfl) (by kernel_rfl) (fun _ _ _ h => h) (Or.inl ⟨by rfl, ?_⟩) hHeld ?_
  rotate_left
  ·(intro w' hSw; go_simp; try (with_reducible rfl))
  change wpAnyH _ _ _ _ _ _ _ (Act.put _ (some 32) _) _
  simp only [Act.put, yA, yB, yC]
  refine wpAnyH_take (i := 16) (v := ?_) rfl (by kernel_rfl) (by kernel_rfl) (by kernel_rfl) (fun _ _ _ h => h) (Or.inl ⟨by rfl, ?_⟩) hHeld ?_
  rotate_left
  ·(intro w' hSw; go_simp; try (with_reducible rfl))
  change wpAnyH _ _ _ _ _ _ _ (Act.put _ (some 33) _) _
  simp only [Act.put, yA, yB, yC]
  refine wpAnyH_ready (rs := [17]) (by kernel_rfl) (by simp) ?_
  refine AllReadyH.cons rfl (fun K hK => ?_) AllReadyH.nil
  rw [if_pos (by kernel_rfl)]
  go_simp
  refine (aw_any _ (HV.out.belowAll hHeld)).mono ?_
  rintro e w7 ⟨rfl, hb⟩
  refine hK.out _ _ (hHeld.trans (hb.mono hHeld.size)) (fun hHeld => ?_)
  clear hK K
  clear hb
  refine wpAnyH_take (i := 18) (v := ?_) rfl (by kernel_rfl) (by kernel_rfl) (by kernel_rfl) (fun _ _ _ h => h) (Or.inl ⟨by rfl, ?_⟩) hHeld ?_
  rotate_left
  ·(intro w' hSw; go_simp; try (with_reducible rfl))
  change wpAnyH _ _ _ _ _ _ _ (Act.put _ (some 35) _) _
  simp only [Act.put, yA, yB, yC]
  refine wpAnyH_take (i := 19) (v := ?_) rfl (by kernel_rfl) (by kernel_rfl) (by kernel_rfl) (fun _ _ _ h => h) (Or.inl ⟨by rfl, ?_⟩) hHeld ?_
  rotate_left
  ·(intro w' hSw; go_simp; try (with_reducible rfl))
  change wpAnyH _ _ _ _ _ _ _ (Act.put _ (some 6) _) _
  simp only [Act.put, yA, yB, yC]
  refine wpAnyH_done (by kernel_rfl) ?_ _
  have HF := yH (HW.out.trans (hHeld.mono HW.out.size))
  clear hHeld
  go_wp2_with fail
  go_ret
  exact ⟨rfl, HF.out⟩
end
end Go.Proofs.YtnpjecdodhkplaaGreatDoor
