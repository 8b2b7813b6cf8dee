import Derived.Test.YtnpjecdodhkplaaGreatDoorTZ
namespace Go.Proofs.YtnpjecdodhkplaaGreatDoor
set_option maxRecDepth 100000
set_option linter.unusedSimpArgs false
set_option linter.unusedVariables false
open Go.RowKit
open List renaming setIfInBounds_toArray → yA, set_cons_zero → yB, set_cons_succ → yC
open Lib renaming hid → yH
theorem wp_bOne {o : Oper} {a : Act} {w : World} {K : Act → World → Prop} {Q : Exit → Act → World → Prop} (x : Operand) (ho : o.op = .buildSlice 57 1 #[(0, x)]) (a1 : Option Addr) (n1 c1 : Nat)
  (hx : a.eval x = .slice a1 n1 c1)
  (h : K (a.put o.dst (.slice (some ⟨w.heap.size, 0, none⟩) 1 1)) (w.alloc (.cells #[.slice a1 n1 c1] 24))) : o.wp Tryz.prog a w K Q := by
 have hi : Tryz.prog.info? 24 = some (Tryz.prog.info? 24).get! := by kernel_rfl
 have hz : (Tryz.prog.info? 24).get!.zero = some (.slice none 0 0) := by kernel_rfl
 have hsz : (Tryz.prog.info? 24).get!.size = 1 := by kernel_rfl
 refine wp_buildSlice 57 24 1 _ ho #[.slice a1 n1 c1] _ _ Tryz.underlying57 hi hz (by rw [hsz]; decide) (by rw [hsz]; decide) ?_ h
 rw [hsz]
 simp only [List.map_toArray, List.map_cons, List.map_nil, hx]
 kernel_rfl
theorem key_eq (Y : Nat) (w : World) : (binOp .eql 27 (.agg (By Y 32).toArray) (.agg (By Y 32).toArray)).run Tryz.prog w = .ok (.bool true) w := by
 have hi : Tryz.prog.info? 5 = some (Tryz.prog.info? 5).get! := by kernel_rfl
 have h := run_eql_nats (P := Tryz.prog) w (t := 27) (e := 5) (n := 32) (k := .u8) Tryz.underlying27 hi Tryz.underlying5 (by kernel_rfl) (nb Y 32) (nb Y 32) (by simp [nb_len]) (by simp [nb_len])
 rw [By_nb, h]
 simp
theorem kguard : Tryz.prog.eqGuardType Tryz.prog.depth 27 = false := by kernel_rfl
theorem exec_eqk {a : Act} {o : Oper} {Y : Nat} {T2 : TypeId} (x y : Operand) (ho : o.op = .binOp .eql 27 x y T2) (hx : a.eval x = .agg (By Y 32).toArray) (hy : a.eval y = .agg (By Y 32).toArray) (w : World) : (execOp a.eval o).run Tryz.prog w = .ok (.value (.bool true)) w := by
 unfold execOp
 simp only [ho, Sem.run_bind, Sem.run_pure, Result.andThen_ok, hx, hy, run_eqGuard_agg (P := Tryz.prog) w .eql 27 x y (By Y 32).toArray (By Y 32).toArray kguard, key_eq]
set_option maxHeartbeats 12800000 in
theorem sig_law (N : Nat) (la : List Nat) {A1 : Option Addr} {n1 c1 : Nat} (w : World) (hw : Sv w) (ha : ∀ x ∈ la, x < 256) (ra : Rd w (fun _ => True) A1 n1 (N8 la)) :
  Calls Tryz.prog 3 #[.agg (By N 32).toArray, .slice A1 n1 c1] w fun e w' => e = .returned (.bool true) ∧ Below w.heap.size w w' := by
 have hs := Row.new w (By N 32) 23
 have hW := Below.alloc1 w (.cells (By N 32).toArray 23)
 have HV := yH (hw.belowAll hW)
 have HW := yH hW
 have HS := yH hs
 have HR := yH (ra.belowAll hW)
 have HA := yH ha
 have hl1 : la.length = n1 := by have := ra.1; rwa [N8_len] at this
 have HL1 := yH hl1
 clear hw ha ra hs hW hl1
 go_enter Tryz.func3, Tryz.ntmps3
 go_wp2_with fail
 generalize w.alloc (.cells (By N 32).toArray 23) = W at *
 by_cases hg1 : 300 < n1
 ·have hgr := gr_any A1 n1 c1 W
  rw [decide_eq_true hg1] at hgr
  refine hgr.mono ?_
  rintro e w1 ⟨rfl, hww⟩
  subst hww
  go_wp2_with fail
  refine (aw_any _ HV.out).mono ?_
  rintro e w2 ⟨rfl, hb⟩
  have HW2 := yH (HW.out.trans (hb.mono HW.out.size))
  clear hb
  go_wp2_with fail
  go_ret
  exact ⟨rfl, HW2.out⟩
 ·have hgr := gr_any A1 n1 c1 W
  rw [decide_eq_false hg1] at hgr
  refine hgr.mono ?_
  rintro e W ⟨rfl, hww⟩
  subst hww
  clear hgr
  have hl6 : la.length < 1000000 := by rw [HL1.out]; omega
  have hn6 : n1 ≤ 1000 := by omega
  have hpb := fun w hw => pb_any N w hw
  have hpr := fun w => pub_ref N w
  have hsg := fun w hw vs ps A m c r p hm hl => sg_1 N la (vs := vs) (ps := ps) (A := A) (m := m) (c := c) w hw r p hm hl hl6
  have hsr := fun w h => sgn_ref N la (A := A1) (m := n1) (c := c1) w HA.out h hn6
  generalize pbN N = Y at *
  generalize sgF N la = F at *
  generalize sgS N la = S at *
  have HPB := yH hpb
  have HPR := yH hpr
  have HSG := yH hsg
  have HSR := yH hsr
  clear hl6 hpb hpr hsg hsr
  go_upto_region 3 with fail
  refine wp_region_any (by kernel_rfl) ?_
  change wpAny _ _ _ _ _ _ _ (World.drew _)
  refine wpAny_of_held (S := (fun w' : World => Below W.heap.size W w')) _ _ _ _ ?_
  have hHeld := ((Below.refl W.heap.size W).drew)
  refine wpAnyH_take (i := 0) (v := .agg (By N 32).toArray) rfl (by kernel_rfl) (by kernel_rfl) (by kernel_rfl) (fun _ _ _ h => h) (yieldsIf_load_mid (by rfl) 23 (.tmp 2) rfl w.heap.size 0 rfl (By N 32) _ (fun w' hSw => (HS.out.belowAll hSw).range) Tryz.underlying23 rfl (seed_len _)) hHeld ?_
  change wpAnyH _ _ _ _ _ _ _ (Act.put _ (some 8) _) _
  simp only [Act.put, yA, yB, yC]
  refine wpAnyH_take (i := 2) (v := .agg (By N 32).toArray) rfl (by kernel_rfl) (by kernel_rfl) (by kernel_rfl) (fun _ _ _ h => h) (yieldsIf_load_mid (by rfl) 23 (.tmp 2) rfl w.heap.size 0 rfl (By N 32) _ (fun w' hSw => (HS.out.belowAll hSw).range) Tryz.underlying23 rfl (seed_len _)) hHeld ?_
  change wpAnyH _ _ _ _ _ _ _ (Act.put _ (some 10) _) _
  simp only [Act.put, yA, yB, yC]
  refine wpAnyH_ready (rs := [1]) (by kernel_rfl) (by simp) ?_
  refine AllReadyH.cons rfl (fun K hK => ?_) AllReadyH.nil
  rw [if_pos (by kernel_rfl)]
  go_simp
  refine (HPB.out _ (HV.out.belowAll hHeld)).mono ?_
  rintro e w3 ⟨rfl, hb⟩
  refine hK.out _ _ (hHeld.trans (hb.mono hHeld.size)) (fun hHeld => ?_)
  clear hK K
  clear hb
  refine wpAnyH_ready (rs := [3]) (by kernel_rfl) (by simp) ?_
  refine AllReadyH.cons rfl (fun K hK => ?_) AllReadyH.nil
  rw [if_pos (by kernel_rfl)]
  go_simp
  refine (HPR.out _).mono ?_
  rintro e w4 ⟨rfl, hb⟩
  refine hK.out _ _ (hHeld.trans (hb.mono hHeld.size)) (fun hHeld => ?_)
  clear hK K
  clear hb
  refine tg 4 12 rfl rfl (by kernel_rfl) (fun _ _ _ h => h) (by rfl) hHeld (fun w' hSw => exec_eqk (.tmp 9) (.tmp 11) rfl rfl rfl w') ?_
  simp only [Act.put, yA, yB, yC]
  refine wpAnyH_take (i := 5) (v := ?_) rfl (by kernel_rfl) (by kernel_rfl) (by kernel_rfl) (fun _ _ _ h => h) (Or.inl ⟨by rfl, ?_⟩) hHeld ?_
  rotate_left
  ·(intro w' hSw; go_simp; try (with_reducible rfl))
  change wpAnyH _ _ _ _ _ _ _ (Act.put _ (some 13) _) _
  simp only [Act.put, yA, yB, yC]
  refine wpAnyH_take (i := 6) (v := .agg (By N 32).toArray) rfl (by kernel_rfl) (by kernel_rfl) (by kernel_rfl) (fun _ _ _ h => h) (yieldsIf_load_mid (by rfl) 23 (.tmp 2) rfl w.heap.size 0 rfl (By N 32) _ (fun w' hSw => (HS.out.belowAll hSw).range) Tryz.underlying23 rfl (seed_len _)) hHeld ?_
  change wpAnyH _ _ _ _ _ _ _ (Act.put _ (some 14) _) _
  simp only [Act.put, yA, yB, yC]
  refine wpAnyH_take (i := 7) (v := ?_) rfl (by kernel_rfl) (by kernel_rfl) (by kernel_rfl) (fun _ _ _ h => h) (Or.inl ⟨by rfl, ?_⟩) hHeld ?_
  rotate_left
  ·(intro w' hSw; go_simp; try (with_reducible rfl))
  change wpAnyH _ _ _ _ _ _ _ (Act.put _ (some 15) _) _
  simp only [Act.put, yA, yB, yC]
  refine wpAnyH_take (i := 10) (v := .agg (By N 32).toArray) rfl (by kernel_rfl) (by kernel_rfl) (by kernel_rfl) (fun _ _ _ h => h) (yieldsIf_load_mid (by rfl) 23 (.tmp 2) rfl w.heap.size 0 rfl (By N 32) _ (fun w' hSw => (HS.out.belowAll hSw).range) Tryz.underlying23 rfl (seed_len _)) hHeld ?_
  change wpAnyH _ _ _ _ _ _ _ (Act.put _ (some 18) _) _
  simp only [Act.put, yA, yB, yC]
  refine wpAnyH_take (i := 11) (v := ?_) rfl (by kernel_rfl) (by kernel_rfl) (by kernel_rfl) (fun _ _ _ h => h) (Or.inl ⟨by rfl, ?_⟩) hHeld ?_
  rotate_left
  ·(intro w' hSw; go_simp; try (with_reducible rfl))
  change wpAnyH _ _ _ _ _ _ _ (Act.put _ (some 19) _) _
  simp only [Act.put, yA, yB, yC]
  refine wpAnyH_ready (rs := [8]) (by kernel_rfl) (by simp) ?_
  refine AllReadyH.cons rfl (fun K hK => ?_) AllReadyH.nil
  rw [if_pos (by kernel_rfl)]
  refine wp_bOne (.tmp 15) rfl A1 n1 c1 rfl ?_
  have hal := hHeld.alloc hHeld.size (.cells #[.slice A1 n1 c1] 24)
  refine hK.out _ _ hal (fun hHeld => ?_)
  clear hK K
  have hpp := Parts.one (c := c1) HA.out (HR.out.belowAll hHeld)
  have hsv := HV.out.belowAll hHeld
  have hcall := HSG.out _ hsv _ _ _ 1 1 one_row hpp (by decide) (by simp)
  clear hpp hsv hal
  refine wpAnyH_ready (rs := [9]) (by kernel_rfl) (by simp) ?_
  refine AllReadyH.cons rfl (fun K hK => ?_) AllReadyH.nil
  rw [if_pos (by kernel_rfl)]
  go_simp
  refine hcall.mono ?_
  rintro e w5 ⟨rfl, hb⟩
  refine hK.out _ _ (hHeld.trans (hb.mono hHeld.size)) (fun hHeld => ?_)
  clear hK K
  clear hcall hb
  refine wpAnyH_ready (rs := [12]) (by kernel_rfl) (by simp) ?_
  refine AllReadyH.cons rfl (fun K hK => ?_) AllReadyH.nil
  rw [if_pos (by kernel_rfl)]
  go_simp
  refine (HSR.out _ (HR.out.belowAll hHeld)).mono ?_
  rintro e w6 ⟨rfl, hb⟩
  refine hK.out _ _ (hHeld.trans (hb.mono hHeld.size)) (fun hHeld => ?_)
  clear hK K
  clear hb
  refine tg 13 21 rfl rfl (by kernel_rfl) (fun _ _ _ h => h) (by rfl) hHeld (fun w' hSw => exec_eq (.tmp 17) (.tmp 20) rfl rfl rfl w') ?_
  simp only [Act.put, yA, yB, yC]
  refine wpAnyH_take (i := 14) (v := ?_) rfl (by kernel_rfl) (by kernel_rfl) (by kernel_rfl) (fun _ _ _ h => h) (Or.inl ⟨by rfl, ?_⟩) hHeld ?_
  rotate_left
  ·(intro w' hSw; go_simp; try (with_reducible rfl))
  change wpAnyH _ _ _ _ _ _ _ (Act.put _ (some 22) _) _
  simp only [Act.put, yA, yB, yC]
  refine wpAnyH_take (i := 15) (v := ?_) rfl (by kernel_rfl) (by kernel_rfl) (by kernel_rfl) (fun _ _ _ h => h) (Or.inl ⟨by rfl, ?_⟩) hHeld ?_
  rotate_left
  ·(intro w' hSw; go_simp; try (with_reducible rfl))
  change wpAnyH _ _ _ _ _ _ _ (Act.put _ (some 23) _) _
  simp only [Act.put, yA, yB, yC]
  refine wpAnyH_ready (rs := [16]) (by kernel_rfl) (by simp) ?_
  refine AllReadyH.cons rfl (fun K hK => ?_) AllReadyH.nil
  rw [if_pos (by kernel_rfl)]
  go_simp
  refine (aw_any _ (HV.out.belowAll hHeld)).mono ?_
  rintro e w7 ⟨rfl, hb⟩
  refine hK.out _ _ (hHeld.trans (hb.mono hHeld.size)) (fun hHeld => ?_)
  clear hK K
  clear hb
  refine wpAnyH_take (i := 17) (v := ?_) rfl (by kernel_rfl) (by kernel_rfl) (by kernel_rfl) (fun _ _ _ h => h) (Or.inl ⟨by rfl, ?_⟩) hHeld ?_
  rotate_left
  ·(intro w' hSw; go_simp; try (with_reducible rfl))
  change wpAnyH _ _ _ _ _ _ _ (Act.put _ (some 25) _) _
  simp only [Act.put, yA, yB, yC]
  refine wpAnyH_take (i := 18) (v := ?_) rfl (by kernel_rfl) (by kernel_rfl) (by kernel_rfl) (fun _ _ _ h => h) (Or.inl ⟨by rfl, ?_⟩) hHeld ?_
  rotate_left
  ·(intro w' hSw; go_simp; try (with_reducible rfl))
  change wpAnyH _ _ _ _ _ _ _ (Act.put _ (some 4) _) _
  simp only [Act.put, yA, yB, yC]
  refine wpAnyH_done (by kernel_rfl) ?_ _
  have HF := yH (HW.out.trans (hHeld.mono HW.out.size))
  clear hHeld
  go_wp2_with fail
  go_ret
  exact ⟨rfl, HF.out⟩
end Go.Proofs.YtnpjecdodhkplaaGreatDoor
