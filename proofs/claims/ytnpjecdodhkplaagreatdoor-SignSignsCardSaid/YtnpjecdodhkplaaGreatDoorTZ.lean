import Derived.Test.YtnpjecdodhkplaaGreatDoorTV
import Derived.Test.YtnpjecdodhkplaaGreatDoorTG
namespace Go.Proofs.YtnpjecdodhkplaaGreatDoor
set_option maxRecDepth 100000
set_option linter.unusedSimpArgs false
set_option linter.unusedVariables false
open Go.RowKit
open List renaming setIfInBounds_toArray → yA, set_cons_zero → yB, set_cons_succ → yC
open Lib renaming hid → yH
theorem mu_ref {n : Nat} (hn : n < 256 ^ 32) : ptR (rmuP baR n) = ptN (muP baP n) := by
 have h2 : n < 2 ^ 256 := by rw [← q256]; exact hn
 rw [mu_told hn, ir_told (ir_mu baR_ok h2 baR_ir)]
theorem by_clp (H : Nat) : ((By H 32).set 0 (.int .u8 ((byt H 0 / 8 * 8 : Nat) : Int))).set 31 (.int .u8 ((byt H 31 % 64 + 64 : Nat) : Int)) = By (clp H) 32 := by
 refine By_ext (clp H) 32 (by rw [List.length_set, List.length_set, By_length]) fun k hk => ?_
 rw [byt_clp H hk]
 by_cases h31 : k = 31
 ·subst h31
  rw [List.getElem?_set_self (by rw [List.length_set, By_length]; decide), if_neg (by decide), if_pos rfl]
 ·rw [List.getElem?_set_ne (fun e => h31 e.symm)]
  by_cases h0 : k = 0
  ·subst h0
   rw [List.getElem?_set_self (by rw [By_length]; decide), if_pos rfl]
  ·rw [List.getElem?_set_ne (fun e => h0 e.symm), By_get _ _ hk, if_neg h0, if_neg h31]
theorem b64_info (N : Nat) : (Tryz.prog.info? 30).map (·.size) = some (By N 64).toArray.size := by rw [List.size_toArray, By_length]; kernel_rfl
theorem salt_rd {w : World} {g H : Nat} (h : Row w g 30 (By H 64)) : Rd w (fun _ => True) (some ⟨g, 32, none⟩) 32 (N8 (nb (slt H) 32)) := by
 rw [By_64] at h
 exact ⟨by simp [N8_len, nb_len], fun _ => ⟨_, rfl, trivial, h.lt, fun j u hu => h.part 32 (N8 (nb (slt H) 32)) (fun j v hv => SL_snd H (slt H) j v (by rw [N8_nb]; exact hv)) j u hu⟩⟩
set_option maxHeartbeats 3200000 in
theorem spl_ref (N : Nat) (w : World) :
  Calls Tryz.prog 18 #[.agg (By N 32).toArray] w fun e w' => (∃ g, e = .returned (.tuple #[.agg (By (scN N) 32).toArray, .slice (some ⟨g, 32, none⟩) 32 32]) ∧ Row w' g 30 (By (shN (nb N 32)) 64)) ∧ Below w.heap.size w w' := by
 have hs := (Row.new w (By N 32) 22).alloc (.cells (By 0 32).toArray 22)
 have hz := Row.new1 w (.cells (By N 32).toArray 22) (By 0 32) 22
 have hW := Below.alloc2 w (.cells (By N 32).toArray 22) (.cells (By 0 32).toArray 22)
 have hf := hs
 rw [N8_nb] at hf
 have hsum := sum_ref (nb N 32) (cap := 32) _ (nb_lt N 32) (Rd.row hf 32 (by simp [N8_len, nb_len])) (by decide)
 have hsc : scN N = clp (shN (nb N 32)) := rfl
 rw [hsc]
 have hH64 : shN (nb N 32) < 256 ^ 64 := dgN_lt _
 generalize shN (nb N 32) = H at *
 have HSUM := yH hsum
 have HW := yH hW
 have HZ := yH hz
 clear hs hz hW hf hsum hsc hH64
 go_enter Tryz.func18, Tryz.ntmps18
 go_wp2_with fail
 refine HSUM.out.mono ?_
 rintro e w1 ⟨rfl, hb⟩
 have h4 := Row.new w1 (List.replicate 64 (.int .u8 0)) 30
 have hb2 := below_setRow (g := w1.heap.size) (hb.alloc hb.size (.cells (List.replicate 64 (.int .u8 0)).toArray 30)) hb.size (By H 64).toArray
 have H4 := yH h4
 have H4R := yH (h4.setRow (By H 64))
 have HZ1 := yH (HZ.out.belowAll hb2)
 have HW1 := yH (HW.out.trans (hb2.mono HW.out.size))
 have HGZ := yH (HZ.out.belowAll hb).lt
 clear hb h4 hb2 HZ HW HSUM
 go_upto_region 2 with (refine wpList_store_row rfl 30 (.tmp 4) (.tmp 8) rfl w1.heap.size _ rfl rfl 30 _ H4.out (b64_info _) (z64sz _) (By_one _ _) ?_)
 have h4 := H4R.out
 have hz := HZ1.out
 have hw := HW1.out
 clear H4 H4R HZ1 HW1
 change Code.wp _ _ _ _ ((w1.alloc (.cells (List.replicate 64 (.int .u8 0)).toArray 30)).setRow w1.heap.size (By H 64).toArray)
 generalize (w1.alloc (.cells (List.replicate 64 (.int .u8 0)).toArray 30)).setRow w1.heap.size (By H 64).toArray = W2 at *
 have hgz := HGZ.out
 generalize w1.heap.size = g4 at *
 have hl4 := h4.lt
 have hlz := hz.lt
 have hsz := hw.size
 have H4 := yH h4
 have HZ := yH hz
 have HW := yH hw
 clear h4 hz hw
 go_wp2_with fail
 go_loopw [6] (fun i wr => ∃ k : Nat, k ≤ 32 ∧ i = .int .i64 (k : Int) ∧ Row wr W2.heap.size 22 (Tab .u8 (byt H) 32 k) ∧ Row wr g4 30 (By H 64) ∧ Row wr (w.heap.size + 1) 22 (By 0 32) ∧ Below w.heap.size w wr) (fun i _ => 32 - (intOf i).toNat)
 case atStart =>
  refine ⟨0, Nat.zero_le _, rfl, ?_, H4.out.alloc _, HZ.out.alloc _, HW.out.alloc HW.out.size _⟩
  rw [Tab_zero]
  exact Row.new W2 (List.replicate 32 (.int .u8 0)) _
 case round =>
  obtain ⟨k, hkn, rfl, h5, h4, hz, hbe⟩ := hrel
  by_cases hlt : k < 32
  ·have c1 := h4.cell (By_get H 64 (k := k) (by omega))
   have hfree := h5.free k
   have hold := h5.cell (Tab_get .u8 (byt H) 32 k hlt)
   have hset := h5.set k (.int .u8 ((byt H k : Nat) : Int))
   rw [Tab_set .u8 (byt H) 32 hlt] at hset
   have n4 := h4.setCell (p := ⟨W2.heap.size, k, none⟩) (by show g4 ≠ W2.heap.size; omega) (.int .u8 ((byt H k : Nat) : Int))
   have nz := hz.setCell (p := ⟨W2.heap.size, k, none⟩) (by show w.heap.size + 1 ≠ W2.heap.size; omega) (.int .u8 ((byt H k : Nat) : Int))
   have nb := hbe.setCell (p := ⟨W2.heap.size, k, none⟩) (by show w.heap.size ≤ W2.heap.size; omega) (.int .u8 ((byt H k : Nat) : Int))
   have hy := byt_lt H k
   generalize byt H k = y at *
   have HSET := yH hset
   have N4 := yH n4
   have NZ := yH nz
   have NB := yH nb
   clear h5 h4 hz hbe hset n4 nz nb H4 HZ HW
   have hk1 : (k : Int) < 64 := by omega
   have hk2 : (k : Int) < 32 := by omega
   go_wp2_with fail
   go_roundw
   case rel => exact ⟨k + 1, by omega, by go_num, HSET.out, N4.out, NZ.out, NB.out⟩
   case measure => simp [intOf] <;> omega
  ·obtain rfl : k = 32 := by omega
   rw [Tab_done] at h5
   have h5 : Row wr W2.heap.size 22 (By H 32) := h5
   have hg5 : w.heap.size ≤ W2.heap.size := hsz
   have hn4 : g4 ≠ W2.heap.size := by omega
   have hnz : w.heap.size + 1 ≠ W2.heap.size := by omega
   generalize W2.heap.size = g5 at *
   have hx0 := byt_lt H 0
   have hx1 := byt_lt H 31
   have c0 := h5.cell (By_get H 32 (k := 0) (by decide))
   have C31 := By_get H 32 (k := 31) (by decide)
   have c31 := h5.cell C31
   have f0 := h5.free 0
   have hfin := by_clp H
   generalize byt H 0 = x0 at *
   generalize byt H 31 = x1 at *
   have e1 : Int.tdiv (x0 : Int) 8 = ((x0 / 8 : Nat) : Int) := by rw [Int.tdiv_eq_ediv_of_nonneg (by omega)]; omega
   have e2 : IntKind.u8.wrap ((x0 / 8 : Nat) : Int) = ((x0 / 8 : Nat) : Int) := by have h0 : IntKind.u8.wrap ((x0 / 8 : Nat) : Int) = ((x0 / 8 : Nat) : Int) % 256 := rfl; rw [h0]; omega
   have e3 : IntKind.u8.wrap (((x0 / 8 : Nat) : Int) * 8) = ((x0 / 8 * 8 : Nat) : Int) := by have h0 : IntKind.u8.wrap (((x0 / 8 : Nat) : Int) * 8) = (((x0 / 8 : Nat) : Int) * 8) % 256 := rfl; rw [h0]; omega
   have e4 : Int.tmod (x1 : Int) 64 = ((x1 % 64 : Nat) : Int) := by rw [Int.tmod_eq_emod_of_nonneg (by omega)]; omega
   have e5 : IntKind.u8.wrap ((x1 % 64 : Nat) : Int) = ((x1 % 64 : Nat) : Int) := by have h0 : IntKind.u8.wrap ((x1 % 64 : Nat) : Int) = ((x1 % 64 : Nat) : Int) % 256 := rfl; rw [h0]; omega
   have e6 : IntKind.u8.wrap (((x1 % 64 : Nat) : Int) + 64) = ((x1 % 64 + 64 : Nat) : Int) := by have h0 : IntKind.u8.wrap (((x1 % 64 : Nat) : Int) + 64) = (((x1 % 64 : Nat) : Int) + 64) % 256 := rfl; rw [h0]; omega
   have i0 : ((x0 / 8 * 8 : Nat) : Int) = (x0 : Int) / 8 * 8 := by omega
   have i1 : ((x1 % 64 + 64 : Nat) : Int) = (x1 : Int) % 64 + 64 := by omega
   rw [i0, i1] at hfin
   have w1 : IntKind.u8.wrap ((x0 : Int) / 8) = (x0 : Int) / 8 := by have h0 : IntKind.u8.wrap ((x0 : Int) / 8) = ((x0 : Int) / 8) % 256 := rfl; rw [h0]; omega
   have w2 : IntKind.u8.wrap ((x0 : Int) / 8 * 8) = (x0 : Int) / 8 * 8 := by have h0 : IntKind.u8.wrap ((x0 : Int) / 8 * 8) = ((x0 : Int) / 8 * 8) % 256 := rfl; rw [h0]; omega
   have w3 : IntKind.u8.wrap ((x1 : Int) % 64) = (x1 : Int) % 64 := by have h0 : IntKind.u8.wrap ((x1 : Int) % 64) = ((x1 : Int) % 64) % 256 := rfl; rw [h0]; omega
   have w4 : IntKind.u8.wrap ((x1 : Int) % 64 + 64) = (x1 : Int) % 64 + 64 := by have h0 : IntKind.u8.wrap ((x1 : Int) % 64 + 64) = ((x1 : Int) % 64 + 64) % 256 := rfl; rw [h0]; omega
   have q1 := h5.set 0 (.int .u8 ((x0 : Int) / 8 * 8))
   have q31 : (wr.setCell ⟨g5, 0, none⟩ (.int .u8 ((x0 : Int) / 8 * 8))).cell? ⟨g5, 31, none⟩ = some (.int .u8 (x1 : Int)) := q1.cell (by rw [List.getElem?_set_ne (by decide)]; exact C31)
   have f1 := q1.free 31
   have q2 := q1.set 31 (.int .u8 ((x1 : Int) % 64 + 64))
   rw [hfin] at q2
   have m4 := (h4.setCell (p := ⟨g5, 0, none⟩) hn4 (.int .u8 ((x0 : Int) / 8 * 8))).setCell (p := ⟨g5, 31, none⟩) hn4 (.int .u8 ((x1 : Int) % 64 + 64))
   have mz := (hz.setCell (p := ⟨g5, 0, none⟩) hnz (.int .u8 ((x0 : Int) / 8 * 8))).setCell (p := ⟨g5, 31, none⟩) hnz (.int .u8 ((x1 : Int) % 64 + 64))
   have mb := (hbe.setCell (p := ⟨g5, 0, none⟩) hg5 (.int .u8 ((x0 : Int) / 8 * 8))).setCell (p := ⟨g5, 31, none⟩) hg5 (.int .u8 ((x1 : Int) % 64 + 64))
   have Q2 := yH q2
   have M4 := yH m4
   have MZ := yH mz
   have MB := yH mb
   clear h5 h4 hz hbe q1 q2 m4 mz mb hfin C31 c31 H4 HZ HW
   go_upto_region 9 with fail
   have q2 := Q2.out
   have m4 := M4.out
   have mz := MZ.out
   have mb := MB.out
   clear Q2 M4 MZ MB q31 f1 f0 c0 e1 e2 e3 e4 e5 e6 w1 w2 w3 w4
   change Code.wp _ _ _ _ ((wr.setCell ⟨g5, 0, none⟩ (.int .u8 ((x0 : Int) / 8 * 8))).setCell ⟨g5, 31, none⟩ (.int .u8 ((x1 : Int) % 64 + 64)))
   generalize (wr.setCell ⟨g5, 0, none⟩ (.int .u8 ((x0 : Int) / 8 * 8))).setCell ⟨g5, 31, none⟩ (.int .u8 ((x1 : Int) % 64 + 64)) = W4 at *
   have HQ := yH q2
   have HM4 := yH m4
   have HMZ := yH mz
   have HMB := yH mb
   clear q2 m4 mz mb
   refine wp_region_any (by kernel_rfl) ?_
   change wpAny _ _ _ _ _ _ _ (World.drew _)
   refine wpAny_of_held (S := (fun w' : World => Row w' g5 22 (By (clp H) 32))) _ _ _ _ ?_
   have hHeld := (HQ.out.drewN 1)
   refine wpAnyH_take (i := 0) (v := .agg (By (clp H) 32).toArray) rfl (by kernel_rfl) (by kernel_rfl) (by kernel_rfl) (fun _ _ _ h => h) (yieldsIf_load_mid (by rfl) 22 (.tmp 5) rfl g5 0 rfl (By (clp H) 32) _ (fun w' hSw => hSw.range) Tryz.underlying22 rfl (by_len _)) hHeld ?_
   change wpAnyH _ _ _ _ _ _ _ (Act.put _ (some 28) _) _
   simp only [Act.put, yA, yB, yC]
   refine wpAnyH_take (i := 1) (v := ?_) rfl (by kernel_rfl) (by kernel_rfl) (by kernel_rfl) (fun _ _ _ h => h) (Or.inl ⟨by rfl, ?_⟩) hHeld ?_
   rotate_left
   ·(intro w' hSw; go_simp; try (with_reducible rfl))
   change wpAnyH _ _ _ _ _ _ _ (Act.put _ (some 29) _) _
   simp only [Act.put, yA, yB, yC]
   refine wpAnyH_ready (rs := [2]) (by kernel_rfl) (by simp) ?_
   refine AllReadyH.cons rfl (fun K hK => ?_) AllReadyH.nil
   rw [if_pos (by kernel_rfl)]
   have hz : Row W4.drew (w.heap.size + 1) 22 (By 0 32) := HMZ.out.drewN 1
   have h4 : Row W4.drew g4 30 (By H 64) := HM4.out.drewN 1
   have h5 : Row W4.drew g5 22 (By (clp H) 32) := HQ.out.drewN 1
   refine wp_store_row 22 (.tmp 2) (.tmp 28) rfl (w.heap.size + 1) (By (clp H) 32).toArray rfl rfl 22 _ hz (by_info _) (By_sz _ _) (By_one32 _) ?_
   have nr := hz.setRow (By (clp H) 32)
   have n4 := h4.setRowOther (k := w.heap.size + 1) (by omega) (By (clp H) 32).toArray
   have n5 := h5.setRowOther (k := w.heap.size + 1) (by omega) (By (clp H) 32).toArray
   have nw := below_setRow (g := w.heap.size + 1) HMB.out.drew (by omega) (By (clp H) 32).toArray
   refine hK.out _ _ n5 (fun hHeld => ?_)
   clear hK K
   refine wpAnyH_take (i := 3) (v := ?_) rfl (by kernel_rfl) (by kernel_rfl) (by kernel_rfl) (fun _ _ _ h => h) (Or.inl ⟨by rfl, ?_⟩) hHeld ?_
   rotate_left
   ·(intro w' hSw; go_simp; try (with_reducible rfl))
   change wpAnyH _ _ _ _ _ _ _ (Act.put _ (some 3) _) _
   simp only [Act.put, yA, yB, yC]
   refine wpAnyH_done (by kernel_rfl) ?_ _
   have HRF := yH nr
   have HM4F := yH n4
   have HWF := yH nw
   clear nr n4 n5 nw hz h4 h5 hHeld HQ HM4 HMZ HMB
   go_wp2_with fail
   refine bodyPost_ret (results_row_slot (by rfl) _ _ (w.heap.size + 1) _ _ _ _ (.slice (some ⟨g4, 32, none⟩) 32 32) (by rfl) HRF.out Tryz.underlying22 rfl (by_info _) (by rfl)) rfl ?_
   exact ⟨⟨g4, rfl, HM4F.out⟩, HWF.out⟩
set_option maxHeartbeats 3200000 in
theorem pub_ref (N : Nat) (w : World) :
  Calls Tryz.prog 9 #[.agg (By N 32).toArray] w fun e w' => e = .returned (.agg (By (pbN N) 32).toArray) ∧ Below w.heap.size w w' := by
 have hs := (Row.new w (By N 32) 22).alloc (.cells (By 0 32).toArray 22)
 have hz := Row.new1 w (.cells (By N 32).toArray 22) (By 0 32) 22
 have hW := Below.alloc2 w (.cells (By N 32).toArray 22) (.cells (By 0 32).toArray 22)
 have hsc : scN N < 256 ^ 32 := clp_lt _
 have hp : ptR (rmuP baR (scN N)) = pbN N := mu_ref hsc
 have hbt := fun w => bytp_ref (rmuP baR (scN N)) w
 rw [hp] at hbt
 have hsp := fun w => spl_ref N w
 generalize scN N = n at *
 generalize pbN N = P at *
 have HBT := yH hbt
 have HSP := yH hsp
 have HW := yH hW
 have HZ := yH hz
 have HS := yH hs
 clear hs hz hW hsc hp hbt hsp
 go_enter Tryz.func9, Tryz.ntmps9
 go_wp2_with (refine wpList_load_row rfl 22 (.tmp 1) rfl w.heap.size rfl 22 _ (0, 0) _ HS.out Tryz.underlying22 rfl (by_info _) ?_)
 refine (HSP.out _).mono ?_
 rintro e w1 ⟨⟨g, rfl, _⟩, hb⟩
 have h3 := Row.new w1 (By 0 32) 22
 have hb2 := below_setRow (g := w1.heap.size) (hb.alloc hb.size (.cells (By 0 32).toArray 22)) hb.size (By n 32).toArray
 have H3 := yH h3
 have H3R := yH (h3.setRow (By n 32))
 have HZ1 := yH (HZ.out.belowAll hb2)
 have HW1 := yH (HW.out.trans (hb2.mono HW.out.size))
 clear hb h3 hb2 HZ HW HS HSP
 go_upto_region 2 with (refine wpList_store_row rfl 22 (.tmp 3) (.tmp 8) rfl w1.heap.size _ rfl rfl 22 _ H3.out (by_info _) (By_sz _ _) (By_one32 _) ?_)
 have h3 := H3R.out
 have hz := HZ1.out
 have hw := HW1.out
 clear H3 H3R HZ1 HW1
 change Code.wp _ _ _ _ ((w1.alloc (.cells (By 0 32).toArray 22)).setRow w1.heap.size (By n 32).toArray)
 generalize (w1.alloc (.cells (By 0 32).toArray 22)).setRow w1.heap.size (By n 32).toArray = W2 at *
 generalize w1.heap.size = g3 at *
 have H3 := yH h3
 have HZ := yH hz
 have HW := yH hw
 clear h3 hz hw
 refine wp_flat_store (aD := ?aD1) (S := fun w' => Below W2.heap.size W2 w') (s := 4) (T := 22) (T' := 22) (g := w.heap.size + 1) (z := By 0 32) (c := By P 32) (x := .tmp 2) (y := .tmp 13)
  (vs := [(0, .agg (RL baR).toArray), (1, .agg (By n 32).toArray), (2, .agg (RL (rmuP baR n)).toArray), (3, .agg (By P 32).toArray)]) (by kernel_rfl) ((Below.refl _ _).drew) (fun _ _ h k => S_trans h k) ?hD1 ?hk1 rfl rfl rfl rfl ?ea1 ?eb1 (fun w' h => HZ.out.belowAll h) (by_info _) (By_sz _ _) (By_one32 _) ?h1
 case hD1 =>
  refine .s 10 rfl (Gives.c (args := []) rfl Tryz.func21 (fun w' h => bap_ref w')) ?_
  refine .s 11 rfl (Gives.l 22 (.tmp 3) g3 (fun w' h => H3.out.belowAll h) Tryz.underlying22 (by_info _)) ?_
  refine .s 12 rfl (Gives.c (args := [.agg (RL baR).toArray, .agg (By n 32).toArray]) rfl Tryz.func20 (fun w' h => mup_ref baR_ok n w')) ?_
  refine .s 13 rfl (Gives.c (args := [.agg (RL (rmuP baR n)).toArray]) rfl Tryz.func19 (fun w' h => HBT.out w')) ?_
  exact .nil
 case hk1 => kernel_rfl
 case ea1 => rfl
 case eb1 => rfl
 case h1 =>
 intro W5 hb
 have HR := yH ((HZ.out.belowAll hb).setRow (By P 32))
 have HW5 := yH (below_setRow (g := w.heap.size + 1) (HW.out.trans (hb.mono HW.out.size)) (by omega) (By P 32).toArray)
 clear hb H3 HZ HW
 go_wp2_with fail
 refine bodyPost_ret (results_cell_row (by rfl) _ _ (w.heap.size + 1) _ _ _ _ (by rfl) HR.out Tryz.underlying22 rfl (by_info _)) rfl ?_
 exact ⟨rfl, HW5.out⟩
def sbS (N Y : Nat) (l : List Nat) : Nat := mulq (hN (nb (sgF N l) 32 ++ (nb Y 32 ++ l))) (scN N) (rrN N l)
theorem slb_info (n s : Nat) : (Tryz.prog.info? 30).map (·.size) = some (SL n s).toArray.size := by rw [List.size_toArray, SL_length]; kernel_rfl
theorem slz_sz (n s : Nat) : (List.replicate 64 (Value.int .u8 0)).toArray.size = (SL n s).toArray.size := by rw [List.size_toArray, List.size_toArray, SL_length, List.length_replicate]
def sgT (F S k : Nat) : List Value := Tab .u8 (byt F) 32 k ++ Tab .u8 (byt S) 32 k
theorem sgT_0 (F S : Nat) : sgT F S 0 = List.replicate 64 (.int .u8 0) := by rw [sgT, Tab_zero, Tab_zero, List.replicate_append_replicate]
theorem sgT_32 (F S : Nat) : sgT F S 32 = SL F S := by rw [sgT, Tab_done, Tab_done]; rfl
theorem sgT_get1 (F S : Nat) {k : Nat} (hk : k < 32) : (sgT F S k)[k]? = some (.int .u8 ((if k < k then byt F k else 0 : Nat) : Int)) := by
 rw [sgT, List.getElem?_append_left (by rw [Tab_length]; exact hk), Tab_get _ _ _ _ hk]
theorem sgT_set1 (F S : Nat) {k : Nat} (hk : k < 32) : (sgT F S k).set k (.int .u8 ((byt F k : Nat) : Int)) = Tab .u8 (byt F) 32 (k + 1) ++ Tab .u8 (byt S) 32 k := by
 rw [sgT, List.set_append_left _ _ (by rw [Tab_length]; exact hk), Tab_set _ _ _ hk]
theorem sgT_get2 (F S : Nat) {k : Nat} (hk : k < 32) : (Tab .u8 (byt F) 32 (k + 1) ++ Tab .u8 (byt S) 32 k)[32 + k]? = some (.int .u8 ((if k < k then byt S k else 0 : Nat) : Int)) := by
 rw [List.getElem?_append_right (by rw [Tab_length]; omega), Tab_length, show 32 + k - 32 = k by omega, Tab_get _ _ _ _ hk]
theorem sgT_set2 (F S : Nat) {k : Nat} (hk : k < 32) : (Tab .u8 (byt F) 32 (k + 1) ++ Tab .u8 (byt S) 32 k).set (32 + k) (.int .u8 ((byt S k : Nat) : Int)) = sgT F S (k + 1) := by
 rw [List.set_append_right _ _ (by rw [Tab_length]; omega), Tab_length, show 32 + k - 32 = k by omega, Tab_set _ _ _ hk, sgT]
set_option maxHeartbeats 12800000 in
theorem sby_ref (N Y : Nat) (l : List Nat) {A : Option Addr} {m c : Nat} (w : World) (hx : ∀ x ∈ l, x < 256) (r : Rd w (fun _ => True) A m (N8 l)) (hm : m ≤ 1000) :
  Calls Tryz.prog 29 #[.agg (By N 32).toArray, .agg (By Y 32).toArray, .slice A m c] w fun e w' => e = .returned (.agg (SL (sgF N l) (sbS N Y l)).toArray) ∧ Below w.heap.size w w' := by
 have hs := ((Row.new w (By N 32) 22).alloc (.cells (By Y 32).toArray 22)).alloc (.cells (List.replicate 64 (.int .u8 0)).toArray 30)
 have hk := (Row.new1 w (.cells (By N 32).toArray 22) (By Y 32) 22).alloc (.cells (List.replicate 64 (.int .u8 0)).toArray 30)
 have hz := Row.new2 w (.cells (By N 32).toArray 22) (.cells (By Y 32).toArray 22) (List.replicate 64 (.int .u8 0)) 30
 have hW := Below.alloc3 w (.cells (By N 32).toArray 22) (.cells (By Y 32).toArray 22) (.cells (List.replicate 64 (.int .u8 0)).toArray 30)
 have hl : l.length = m := by have := r.1; rwa [N8_len] at this
 have HL := yH hl
 have HX := yH hx
 have HM := yH hm
 have HR := yH (r.belowAll hW)
 have HS := yH hs
 have HK := yH hk
 have HZ0 := yH hz
 have HW := yH hW
 clear hl hx hm r hs hk hz hW
 go_enter Tryz.func29, Tryz.ntmps29
 go_wp2_with (refine wpList_load_row rfl 22 (.tmp 3) rfl w.heap.size rfl 22 _ (0, 0) _ HS.out Tryz.underlying22 rfl (by_info _) ?_)
 refine (spl_ref N _).mono ?_
 rintro e w1 ⟨⟨gs, rfl, hgs⟩, hb⟩
 have hsa : Rd w1 (fun _ => True) (some ⟨gs, 32, none⟩) 32 (N8 (nb (stN N) 32)) := salt_rd hgs
 have hn256 : scN N < 256 ^ 32 := clp_lt _
 have hsb : ∀ Y, sbS N Y l = mulq (hN (nb (sgF N l) 32 ++ (nb Y 32 ++ l))) (scN N) (rrN N l) := fun _ => rfl
 have hsf : sgF N l = ptN (muP baP (rrN N l)) := rfl
 have hrr : rrN N l = hN (nb (stN N) 32 ++ l) := rfl
 have h7 := Row.new w1 (By 0 32) 22
 have hb2 := below_setRow (g := w1.heap.size) (hb.alloc hb.size (.cells (By 0 32).toArray 22)) hb.size (By (scN N) 32).toArray
 have H7 := yH h7
 have H7R := yH (h7.setRow (By (scN N) 32))
 have HSA := yH (hsa.belowAll (below_setRow (g := w1.heap.size) (Below.alloc1 w1 (.cells (By 0 32).toArray 22)) (Nat.le_refl _) (By (scN N) 32).toArray))
 have HR1 := yH (HR.out.belowAll hb2)
 have HK1 := yH (HK.out.belowAll hb2)
 have HZ1 := yH (HZ0.out.belowAll hb2)
 have HW1 := yH (HW.out.trans (hb2.mono HW.out.size))
 have HSB := yH hsb
 have HSF := yH hsf
 have HRR := yH hrr
 clear hb h7 hb2 hsa hgs hsb hsf hrr HR HK HZ0 HW HS
 go_upto_region 2 with (refine wpList_store_row rfl 22 (.tmp 7) (.tmp 18) rfl w1.heap.size _ rfl rfl 22 _ H7.out (by_info _) (By_sz _ _) (By_one32 _) ?_)
 have h7 := H7R.out
 have hsa := HSA.out
 have hr := HR1.out
 have hk := HK1.out
 have hz := HZ1.out
 have hw := HW1.out
 clear H7 H7R HSA HR1 HK1 HZ1 HW1
 change Code.wp _ _ _ _ ((w1.alloc (.cells (By 0 32).toArray 22)).setRow w1.heap.size (By (scN N) 32).toArray)
 generalize (w1.alloc (.cells (By 0 32).toArray 22)).setRow w1.heap.size (By (scN N) 32).toArray = W2 at *
 generalize w1.heap.size = g7 at *
 generalize scN N = n at *
 generalize stN N = sl at *
 have hi : Tryz.prog.info? 5 = some (Tryz.prog.info? 5).get! := by kernel_rfl
 have hzu : (Tryz.prog.info? 5).get!.zero = some (.int .u8 0) := by kernel_rfl
 have HI := yH hi
 have HZ := yH hzu
 have hB := Below.alloc1 W2 (.cells #[] 5)
 have hown : (W2.alloc (.cells #[] 5)).ownsRow W2.heap.size 5 1 (.slice (some ⟨W2.heap.size, 0, none⟩) 0 0) 0 [] := World.ownsRow_made W2 #[] 0 (Nat.le_refl _) (by unfold maxLen; omega) rfl
 have HO := yH hown
 have HBB := yH hB
 have HSA2 := yH (hsa.belowAll hB)
 have H7 := yH h7
 have HR := yH hr
 have HK := yH hk
 have HZR := yH hz
 have HW := yH hw
 clear hi hzu hB hown hsa h7 hr hk hz hw
 go_wp2_with (at_builtin; refine wpList_append_rd _ rfl (.tmp 20) (.tmp 21) 24 rfl W2.heap.size 5 _ _ 1 Tryz.underlying24 HI.out HZ.out (by kernel_rfl) (by kernel_rfl) (by rfl) _ 0 [] rfl HO.out (fun _ => True) (some ⟨gs, 32, none⟩) 32 32 (N8 (nb sl 32)) rfl HSA2.out (N8_ones _) ?c1 ?c2 ?c3 ?_)
 case c1 => unfold maxLen; omega
 case c2 => omega
 case c3 => exact HBB.out.size
 intro v1 w4 hown1 hgr1 _
 have hb4 : Below W2.heap.size W2 w4 := HBB.out.grown hgr1 HBB.out.size (fun q hq => (HO.out.lt q hq).1)
 try rw [List.nil_append, Nat.zero_add] at hown1
 obtain ⟨A4, c4, rfl⟩ := own_slice hown1
 have HO1 := yH hown1
 have HB4 := yH hb4
 have HR6 := yH (HR.out.belowAll hb4)
 clear hown1 hgr1 hb4 HO HBB HSA2
 go_wp2_with (at_builtin; refine wpList_append_rd _ rfl (.tmp 22) (.tmp 23) 24 rfl W2.heap.size 5 _ _ 1 Tryz.underlying24 HI.out HZ.out (by kernel_rfl) (by kernel_rfl) (by rfl) _ 32 (N8 (nb sl 32)) rfl HO1.out (fun _ => True) A m c (N8 l) rfl HR6.out (N8_ones l) ?d1 ?d2 ?d3 ?_)
 case d1 => have := HM.out; unfold maxLen; omega
 case d2 => have := HM.out; omega
 case d3 => exact HB4.out.size
 intro v2 w5 hown2 hgr2 _
 have hb5 : Below W2.heap.size W2 w5 := HB4.out.grown hgr2 HB4.out.size (fun q hq => (HO1.out.lt q hq).1)
 obtain ⟨A5, c5, rfl⟩ := own_slice hown2
 have hall : Rd w5 (fun _ => True) A5 (32 + m) (N8 (nb sl 32 ++ l)) := by
  have h := (Rd.of_own hown2).mono (G := fun _ => True) (fun _ _ _ => trivial)
  unfold N8
  rw [List.map_append]
  exact h
 have hx1 : ∀ x ∈ nb sl 32 ++ l, x < 256 := by
  intro x h
  rcases List.mem_append.1 h with h | h
  ·exact nb_lt sl 32 x h
  ·exact HX.out x h
 have hh1 := hash_ref (nb sl 32 ++ l) (cap := c5) w5 hx1 hall (by have := HM.out; omega)
 have hr256 : rrN N l < 256 ^ 32 := by rw [HRR.out]; exact hN_256 _
 rw [← HRR.out] at hh1
 have HH1 := yH hh1
 have H75 := yH (H7.out.belowAll hb5)
 have HR5 := yH (HR.out.belowAll hb5)
 have HK5 := yH (HK.out.belowAll hb5)
 have HZ5 := yH (HZR.out.belowAll hb5)
 have HW5 := yH (HW.out.trans (hb5.mono HW.out.size))
 clear hown2 hgr2 hb5 hall hx1 hh1 HO1 HB4 HR6 H7 HR HK HZR HW HRR
 have hF : ptR (rmuP baR (rrN N l)) = sgF N l := by rw [HSF.out]; exact mu_ref hr256
 have hF256 : sgF N l < 256 ^ 32 := sgF_lt N l
 have hbt := fun w => bytp_ref (rmuP baR (rrN N l)) w
 rw [hF] at hbt
 generalize rrN N l = r at *
 obtain ⟨F, hef⟩ : ∃ F, F = sgF N l := ⟨_, rfl⟩
 have hsb := HSB.out
 rw [← hef] at hbt hF256
 simp only [← hef] at hsb
 clear HSB
 have HSB := yH hsb
 have HEF := yH hef
 have HBT := yH hbt
 clear hbt hF HSF hef hsb
 go_wp2_with fail
 refine HH1.out.mono ?_
 rintro e w6 ⟨rfl, hb⟩
 have h9 := Row.new w6 (By 0 32) 22
 have hb2 := below_setRow (g := w6.heap.size) (hb.alloc hb.size (.cells (By 0 32).toArray 22)) hb.size (By r 32).toArray
 have H9 := yH h9
 have H9R := yH (h9.setRow (By r 32))
 have H76 := yH (H75.out.belowAll hb2)
 have HR6 := yH (HR5.out.belowAll hb2)
 have HK6 := yH (HK5.out.belowAll hb2)
 have HZ6 := yH (HZ5.out.belowAll hb2)
 have HW6 := yH (HW5.out.trans (hb2.mono HW5.out.size))
 clear hb h9 hb2 H75 HR5 HK5 HZ5 HW5 HH1
 go_upto_region 3 with (refine wpList_store_row rfl 22 (.tmp 9) (.tmp 25) rfl w6.heap.size _ rfl rfl 22 _ H9.out (by_info _) (By_sz _ _) (By_one32 _) ?_)
 have h9 := H9R.out
 have h7 := H76.out
 have hr := HR6.out
 have hk := HK6.out
 have hz := HZ6.out
 have hw := HW6.out
 clear H9 H9R H76 HR6 HK6 HZ6 HW6
 change Code.wp _ _ _ _ ((w6.alloc (.cells (By 0 32).toArray 22)).setRow w6.heap.size (By r 32).toArray)
 generalize (w6.alloc (.cells (By 0 32).toArray 22)).setRow w6.heap.size (By r 32).toArray = W3 at *
 generalize w6.heap.size = g9 at *
 have H9 := yH h9
 have H7 := yH h7
 have HR := yH hr
 have HK := yH hk
 have HZR := yH hz
 have HW := yH hw
 clear h9 h7 hr hk hz hw
 refine wp_vars_one (aD := ?aD3) (B := W3.heap.size) (S := fun w' => Below W3.heap.size W3 w') (k1 := 4) (s1 := 5) (T1 := 22) (L1 := 22) (z1 := By 0 32) (c1 := By F 32) (x1 := .tmp 10) (y1 := .tmp 29)
  (vs := [(0, .agg (RL baR).toArray), (1, .agg (By r 32).toArray), (2, .agg (RL (rmuP baR r)).toArray), (3, .agg (By F 32).toArray)]) (by kernel_rfl) ((Below.refl _ _).drew) (fun _ _ h k => S_trans h k) (fun _ _ cs h hg => S_row h hg cs) (fun _ h => h.size) ?hD3 (.of rfl rfl rfl (fun w' => by_alloc w')) ?hk3 rfl rfl (some 10) rfl rfl rfl ?e3 ?f3 (by_info _) (By_sz _ _) (By_one32 _) ?h3
 case hD3 =>
  refine .s 26 rfl (Gives.c (args := []) rfl Tryz.func21 (fun w' h => bap_ref w')) ?_
  refine .s 27 rfl (Gives.l 22 (.tmp 9) g9 (fun w' h => H9.out.belowAll h) Tryz.underlying22 (by_info _)) ?_
  refine .s 28 rfl (Gives.c (args := [.agg (RL baR).toArray, .agg (By r 32).toArray]) rfl Tryz.func20 (fun w' h => mup_ref baR_ok r w')) ?_
  refine .s 29 rfl (Gives.c (args := [.agg (RL (rmuP baR r)).toArray]) rfl Tryz.func19 (fun w' h => HBT.out w')) ?_
  exact .nil
 case hk3 => kernel_rfl
 case e3 => intro i1; rfl
 case f3 => intro i1; rfl
 case h3 =>
 intro g10 W hb hg10 h10
 have H104 := yH h10
 have H94 := yH (H9.out.belowAll hb)
 have H74 := yH (H7.out.belowAll hb)
 have HR4 := yH (HR.out.belowAll hb)
 have HK4 := yH (HK.out.belowAll hb)
 have HZ4 := yH (HZR.out.belowAll hb)
 have HW4 := yH (HW.out.trans (hb.mono HW.out.size))
 clear hb hg10 h10 H9 H7 HR HK HZR HW HBT
 simp only [Act.put, yA, yB, yC]
 obtain ⟨xs, hxs⟩ : ∃ xs, xs = nb F 32 ++ (nb Y 32 ++ l) := ⟨_, rfl⟩
 have hlt : ∀ x ∈ xs, x < 256 := by rw [hxs]; exact nb3_lt F Y HX.out
 have hxl : ([] ++ N8 (nb F 32)) ++ N8 (nb Y 32) ++ N8 l = N8 xs := by rw [hxs]; simp [N8]
 have hkk := hN_256 xs
 have hh := fun (a : Option Addr) (n cap : Nat) w (h : Rd w (fun _ => True) a n (N8 xs)) hn => hash_ref xs (cap := cap) w hlt h hn
 have hkq : hN xs = hN (nb F 32 ++ (nb Y 32 ++ l)) := by rw [hxs]
 have hsb := HSB.out Y
 rw [← hkq] at hsb
 generalize hN xs = kk at *
 have HXL := yH hxl
 have HH := yH hh
 have HKK := yH hkk
 have HSB2 := yH hsb
 have hf7 := H104.out
 have hfk := HK4.out
 rw [N8_nb] at hf7 hfk
 have SF := yH (Rd.row hf7 32 (by simp [N8_len, nb_len]))
 have SK := yH (Rd.row hfk 32 (by simp [N8_len, nb_len]))
 clear hlt hxl hkk hh hkq hf7 hfk hxs hsb HSB
 go_upto_region 4 with fail
 refine region_cut (fun a' w' => ∃ gC : Nat, ∃ v15 v16 v17 v18 v19 v20 v21 v22 v23 v24 v25 v26 v27 v28 v29 v30 v32 v34 v36 : Value, a' = ⟨#[.agg (By N 32).toArray, .agg (By Y 32).toArray, .slice A m c, .pointer (some ⟨w.heap.size, 0, none⟩), .pointer (some ⟨w.heap.size + 1, 0, none⟩), undef, .pointer (some ⟨w.heap.size + 1 + 1, 0, none⟩), .pointer (some ⟨g7, 0, none⟩), .slice (some ⟨gs, 32, none⟩) 32 32, .pointer (some ⟨g9, 0, none⟩), .pointer (some ⟨g10, 0, none⟩), .pointer (some ⟨gC, 0, none⟩), undef, undef, undef, v15, v16, v17, v18, v19, v20, v21, v22, v23, v24, v25, v26, v27, v28, v29, v30, .slice (some ⟨g10, 0, none⟩) 32 32, v32, .slice (some ⟨w.heap.size + 1, 0, none⟩) 32 32, v34, .slice A m c, v36, .agg (By kk 32).toArray, undef, undef, undef, undef, undef, undef, undef, undef, undef, undef, undef, undef, undef, undef, undef, undef, undef, undef, undef, undef], []⟩ ∧ Below W.heap.size W w' ∧ Row w' gC 22 (By kk 32)) ?_ ?_
 ·refine wp_region_any (by kernel_rfl) ?_
  change wpAny _ _ _ _ _ _ _ (World.drew _)
  refine wpAny_of_held (S := (fun w' : World => Below W.heap.size W w')) _ _ _ _ ?_
  have hHeld := ((Below.refl W.heap.size W).drew)
  have hH : Below W.heap.size W W.drew := (Below.refl W.heap.size W).drew
  refine wpAnyH_take (i := 1) (v := ?_) rfl (by kernel_rfl) (by kernel_rfl) (by kernel_rfl) (fun _ _ _ h => nomatch h.1) (Or.inl ⟨by rfl, ?_⟩) hHeld ?_
  rotate_left
  ·(intro w' hSw; go_simp; try (with_reducible rfl))
  change wpAnyH _ _ _ _ _ _ _ (Act.put _ (some 31) _) _
  simp only [Act.put, yA, yB, yC]
  refine wpAnyH_take (i := 3) (v := ?_) rfl (by kernel_rfl) (by kernel_rfl) (by kernel_rfl) (fun _ _ _ h => nomatch h.1) (Or.inl ⟨by rfl, ?_⟩) hHeld ?_
  rotate_left
  ·(intro w' hSw; go_simp; try (with_reducible rfl))
  change wpAnyH _ _ _ _ _ _ _ (Act.put _ (some 33) _) _
  simp only [Act.put, yA, yB, yC]
  refine wpAnyH_take (i := 5) (v := ?_) rfl (by kernel_rfl) (by kernel_rfl) (by kernel_rfl) (fun _ _ _ h => nomatch h.1) (Or.inl ⟨by rfl, ?_⟩) hHeld ?_
  rotate_left
  ·(intro w' hSw; go_simp; try (with_reducible rfl))
  change wpAnyH _ _ _ _ _ _ _ (Act.put _ (some 35) _) _
  simp only [Act.put, yA, yB, yC]
  clear hHeld
  generalize W.drew = w0 at *
  refine wpAnyH_ready (rs := [0, 8]) (by kernel_rfl) (by simp) ?_
  refine AllReadyH.cons rfl (fun K hK => ?_) (AllReadyH.cons rfl (fun K hK => ?_) AllReadyH.nil)
  rw [if_pos (by kernel_rfl)]
  refine wp_none rfl ?_
  have hb := Below.alloc1 w0 (.cells #[] 5)
  have hOn : (w0.alloc (.cells #[] 5)).ownsRow W.heap.size 5 1 (.slice (some ⟨w0.heap.size, 0, none⟩) 0 0) 0 [] := World.ownsRow_made w0 #[] 0 hH.size (by unfold maxLen; omega) rfl
  have hHn := hH.trans (hb.mono hH.size)
  refine hK.out _ _ hHn (fun _ => ?_)
  clear hK K hb
  generalize w0.alloc (.cells #[] 5) = n1 at hHn hOn ⊢
  generalize w0.heap.size = gO at hOn ⊢
  clear hH
  have hH := hHn
  have hO := hOn
  clear hHn hOn
  rotate_left
  rw [if_pos (by kernel_rfl)]
  refine wp_allocK 22 (By 0 32) rfl (fun w => by_alloc w) ?_
  have hb := Below.alloc1 w0 (.cells (By 0 32).toArray 22)
  have hCn := Row.new w0 (By 0 32) 22
  have geC := hH.size
  have hHn := hH.trans (hb.mono hH.size)
  refine hK.out _ _ hHn (fun _ => ?_)
  clear hK K hb
  generalize w0.alloc (.cells (By 0 32).toArray 22) = x0 at hHn hCn ⊢
  generalize w0.heap.size = gC at hCn geC ⊢
  clear hH
  have hH := hHn
  have hC := hCn
  clear hHn hCn
  iterate 1
   refine wpAnyH_ready (rs := [0]) (by kernel_rfl) (by simp) ?_
   refine AllReadyH.cons rfl (fun K hK => ?_) AllReadyH.nil
   rw [if_pos (by kernel_rfl)]
   refine wp_none rfl ?_
   have hb := Below.alloc1 x0 (.cells #[] 5)
   have hOn : (x0.alloc (.cells #[] 5)).ownsRow W.heap.size 5 1 (.slice (some ⟨x0.heap.size, 0, none⟩) 0 0) 0 [] := World.ownsRow_made x0 #[] 0 hH.size (by unfold maxLen; omega) rfl
   have hHn := hH.trans (hb.mono hH.size)
   have hCn := hC.belowAll hb
   refine hK.out _ _ hHn (fun _ => ?_)
   clear hK K hb
   generalize x0.alloc (.cells #[] 5) = x1 at hHn hOn hCn ⊢
   generalize x0.heap.size = gO at hOn ⊢
   clear hH hC
   have hH := hHn
   have hO := hOn
   have hC := hCn
   clear hHn hOn hCn
   rotate_left
  refine wpAnyH_ready (rs := [2, 8]) (by kernel_rfl) (by simp) ?_
  refine AllReadyH.cons rfl (fun K hK => ?_) (AllReadyH.cons rfl (fun K hK => ?_) AllReadyH.nil)
  rw [if_pos (by kernel_rfl)]
  refine wp_append_rd (.tmp 30) (.tmp 31) 24 rfl W.heap.size 5 _ _ 1 Tryz.underlying24 HI.out HZ.out (by kernel_rfl) (by kernel_rfl) (by rfl) _ _ _ rfl hO (fun _ => True) _ _ _ _ rfl (SF.out.belowAll hH) (N8_ones _) (by have := HM.out; unfold maxLen; omega) (by have := HM.out; omega) hH.size ?_
  intro v n2 hOn hgr _
  have hHn : Below W.heap.size W n2 := hH.grown hgr hH.size (fun q hq => (hO.lt q hq).1)
  obtain ⟨A1, c1, rfl⟩ := own_slice hOn
  refine hK.out _ _ hHn (fun _ => ?_)
  clear hK K hgr
  clear hH hO
  have hH := hHn
  have hO := hOn
  clear hHn hOn
  rotate_left
  rw [if_pos (by kernel_rfl)]
  refine wp_allocK 22 (By 0 32) rfl (fun w => by_alloc w) ?_
  have hb := Below.alloc1 n1 (.cells (By 0 32).toArray 22)
  have hCn := Row.new n1 (By 0 32) 22
  have geC := hH.size
  have hOn := hO.alloc (.cells (By 0 32).toArray 22)
  have hHn := hH.trans (hb.mono hH.size)
  refine hK.out _ _ hHn (fun _ => ?_)
  clear hK K hb
  generalize n1.alloc (.cells (By 0 32).toArray 22) = x1 at hHn hCn hOn ⊢
  generalize n1.heap.size = gC at hCn geC ⊢
  clear hH hO
  have hH := hHn
  have hO := hOn
  have hC := hCn
  clear hHn hOn hCn
  iterate 2
   refine wpAnyH_ready (rs := [2]) (by kernel_rfl) (by simp) ?_
   refine AllReadyH.cons rfl (fun K hK => ?_) AllReadyH.nil
   rw [if_pos (by kernel_rfl)]
   refine wp_append_rd (.tmp 30) (.tmp 31) 24 rfl W.heap.size 5 _ _ 1 Tryz.underlying24 HI.out HZ.out (by kernel_rfl) (by kernel_rfl) (by rfl) _ _ _ rfl hO (fun _ => True) _ _ _ _ rfl (SF.out.belowAll hH) (N8_ones _) (by have := HM.out; unfold maxLen; omega) (by have := HM.out; omega) hH.size ?_
   intro v x2 hOn hgr _
   have hHn : Below W.heap.size W x2 := hH.grown hgr hH.size (fun q hq => (hO.lt q hq).1)
   have hCn : Row x2 gC 22 (By 0 32) := (hgr.block gC hC.lt (own_ne hO hC)).trans hC
   obtain ⟨A1, c1, rfl⟩ := own_slice hOn
   refine hK.out _ _ hHn (fun _ => ?_)
   clear hK K hgr
   clear hH hO hC
   have hH := hHn
   have hO := hOn
   have hC := hCn
   clear hHn hOn hCn
   rotate_left
  refine wpAnyH_ready (rs := [4, 8]) (by kernel_rfl) (by simp) ?_
  refine AllReadyH.cons rfl (fun K hK => ?_) (AllReadyH.cons rfl (fun K hK => ?_) AllReadyH.nil)
  rw [if_pos (by kernel_rfl)]
  refine wp_append_rd (.tmp 32) (.tmp 33) 24 rfl W.heap.size 5 _ _ 1 Tryz.underlying24 HI.out HZ.out (by kernel_rfl) (by kernel_rfl) (by rfl) _ _ _ rfl hO (fun _ => True) _ _ _ _ rfl (SK.out.belowAll hH) (N8_ones _) (by have := HM.out; unfold maxLen; omega) (by have := HM.out; omega) hH.size ?_
  intro v n3 hOn hgr _
  have hHn : Below W.heap.size W n3 := hH.grown hgr hH.size (fun q hq => (hO.lt q hq).1)
  obtain ⟨A2, c2, rfl⟩ := own_slice hOn
  refine hK.out _ _ hHn (fun _ => ?_)
  clear hK K hgr
  clear hH hO
  have hH := hHn
  have hO := hOn
  clear hHn hOn
  rotate_left
  rw [if_pos (by kernel_rfl)]
  refine wp_allocK 22 (By 0 32) rfl (fun w => by_alloc w) ?_
  have hb := Below.alloc1 n2 (.cells (By 0 32).toArray 22)
  have hCn := Row.new n2 (By 0 32) 22
  have geC := hH.size
  have hOn := hO.alloc (.cells (By 0 32).toArray 22)
  have hHn := hH.trans (hb.mono hH.size)
  refine hK.out _ _ hHn (fun _ => ?_)
  clear hK K hb
  generalize n2.alloc (.cells (By 0 32).toArray 22) = x2 at hHn hCn hOn ⊢
  generalize n2.heap.size = gC at hCn geC ⊢
  clear hH hO
  have hH := hHn
  have hO := hOn
  have hC := hCn
  clear hHn hOn hCn
  iterate 3
   refine wpAnyH_ready (rs := [4]) (by kernel_rfl) (by simp) ?_
   refine AllReadyH.cons rfl (fun K hK => ?_) AllReadyH.nil
   rw [if_pos (by kernel_rfl)]
   refine wp_append_rd (.tmp 32) (.tmp 33) 24 rfl W.heap.size 5 _ _ 1 Tryz.underlying24 HI.out HZ.out (by kernel_rfl) (by kernel_rfl) (by rfl) _ _ _ rfl hO (fun _ => True) _ _ _ _ rfl (SK.out.belowAll hH) (N8_ones _) (by have := HM.out; unfold maxLen; omega) (by have := HM.out; omega) hH.size ?_
   intro v x3 hOn hgr _
   have hHn : Below W.heap.size W x3 := hH.grown hgr hH.size (fun q hq => (hO.lt q hq).1)
   have hCn : Row x3 gC 22 (By 0 32) := (hgr.block gC hC.lt (own_ne hO hC)).trans hC
   obtain ⟨A2, c2, rfl⟩ := own_slice hOn
   refine hK.out _ _ hHn (fun _ => ?_)
   clear hK K hgr
   clear hH hO hC
   have hH := hHn
   have hO := hOn
   have hC := hCn
   clear hHn hOn hCn
   rotate_left
  refine wpAnyH_ready (rs := [6, 8]) (by kernel_rfl) (by simp) ?_
  refine AllReadyH.cons rfl (fun K hK => ?_) (AllReadyH.cons rfl (fun K hK => ?_) AllReadyH.nil)
  rw [if_pos (by kernel_rfl)]
  refine wp_append_rd (.tmp 34) (.tmp 35) 24 rfl W.heap.size 5 _ _ 1 Tryz.underlying24 HI.out HZ.out (by kernel_rfl) (by kernel_rfl) (by rfl) _ _ _ rfl hO (fun _ => True) _ _ _ _ rfl (HR4.out.belowAll hH) (N8_ones _) (by have := HM.out; unfold maxLen; omega) (by have := HM.out; omega) hH.size ?_
  intro v n4 hOn hgr _
  have hHn : Below W.heap.size W n4 := hH.grown hgr hH.size (fun q hq => (hO.lt q hq).1)
  obtain ⟨A3, c3, rfl⟩ := own_slice hOn
  refine hK.out _ _ hHn (fun _ => ?_)
  clear hK K hgr
  clear hH hO
  have hH := hHn
  have hO := hOn
  clear hHn hOn
  rotate_left
  rw [if_pos (by kernel_rfl)]
  refine wp_allocK 22 (By 0 32) rfl (fun w => by_alloc w) ?_
  have hb := Below.alloc1 n3 (.cells (By 0 32).toArray 22)
  have hCn := Row.new n3 (By 0 32) 22
  have geC := hH.size
  have hOn := hO.alloc (.cells (By 0 32).toArray 22)
  have hHn := hH.trans (hb.mono hH.size)
  refine hK.out _ _ hHn (fun _ => ?_)
  clear hK K hb
  generalize n3.alloc (.cells (By 0 32).toArray 22) = x3 at hHn hCn hOn ⊢
  generalize n3.heap.size = gC at hCn geC ⊢
  clear hH hO
  have hH := hHn
  have hO := hOn
  have hC := hCn
  clear hHn hOn hCn
  iterate 4
   refine wpAnyH_ready (rs := [6]) (by kernel_rfl) (by simp) ?_
   refine AllReadyH.cons rfl (fun K hK => ?_) AllReadyH.nil
   rw [if_pos (by kernel_rfl)]
   refine wp_append_rd (.tmp 34) (.tmp 35) 24 rfl W.heap.size 5 _ _ 1 Tryz.underlying24 HI.out HZ.out (by kernel_rfl) (by kernel_rfl) (by rfl) _ _ _ rfl hO (fun _ => True) _ _ _ _ rfl (HR4.out.belowAll hH) (N8_ones _) (by have := HM.out; unfold maxLen; omega) (by have := HM.out; omega) hH.size ?_
   intro v x4 hOn hgr _
   have hHn : Below W.heap.size W x4 := hH.grown hgr hH.size (fun q hq => (hO.lt q hq).1)
   have hCn : Row x4 gC 22 (By 0 32) := (hgr.block gC hC.lt (own_ne hO hC)).trans hC
   obtain ⟨A3, c3, rfl⟩ := own_slice hOn
   refine hK.out _ _ hHn (fun _ => ?_)
   clear hK K hgr
   clear hH hO hC
   have hH := hHn
   have hO := hOn
   have hC := hCn
   clear hHn hOn hCn
   rotate_left
  refine wpAnyH_ready (rs := [7, 8]) (by kernel_rfl) (by simp) ?_
  refine AllReadyH.cons rfl (fun K hK => ?_) (AllReadyH.cons rfl (fun K hK => ?_) AllReadyH.nil)
  rw [if_pos (by kernel_rfl)]
  go_simp
  have hrd := (Rd.of_own hO).mono (G := fun _ => True) (fun _ _ _ => trivial)
  rw [HXL.out] at hrd
  refine (HH.out _ _ _ _ hrd (by have := HM.out; omega)).mono ?_
  rintro e n5 ⟨rfl, hb⟩
  have hHn := hH.trans (hb.mono hH.size)
  refine hK.out _ _ hHn (fun _ => ?_)
  clear hK K hb hrd
  clear hH hO
  have hH := hHn
  clear hHn
  rotate_left
  rw [if_pos (by kernel_rfl)]
  refine wp_allocK 22 (By 0 32) rfl (fun w => by_alloc w) ?_
  have hb := Below.alloc1 n4 (.cells (By 0 32).toArray 22)
  have hCn := Row.new n4 (By 0 32) 22
  have geC := hH.size
  have hOn := hO.alloc (.cells (By 0 32).toArray 22)
  have hHn := hH.trans (hb.mono hH.size)
  refine hK.out _ _ hHn (fun _ => ?_)
  clear hK K hb
  generalize n4.alloc (.cells (By 0 32).toArray 22) = x4 at hHn hCn hOn ⊢
  generalize n4.heap.size = gC at hCn geC ⊢
  clear hH hO
  have hH := hHn
  have hO := hOn
  have hC := hCn
  clear hHn hOn hCn
  iterate 5
   refine wpAnyH_ready (rs := [7]) (by kernel_rfl) (by simp) ?_
   refine AllReadyH.cons rfl (fun K hK => ?_) AllReadyH.nil
   rw [if_pos (by kernel_rfl)]
   go_simp
   have hrd := (Rd.of_own hO).mono (G := fun _ => True) (fun _ _ _ => trivial)
   rw [HXL.out] at hrd
   refine (HH.out _ _ _ _ hrd (by have := HM.out; omega)).mono ?_
   rintro e x5 ⟨rfl, hb⟩
   have hHn := hH.trans (hb.mono hH.size)
   have hCn := hC.belowAll hb
   refine hK.out _ _ hHn (fun _ => ?_)
   clear hK K hb hrd
   clear hH hO hC
   have hH := hHn
   have hC := hCn
   clear hHn hCn
   rotate_left
  refine wpAnyH_ready (rs := [8]) (by kernel_rfl) (by simp) ?_
  refine AllReadyH.cons rfl (fun K hK => ?_) AllReadyH.nil
  rw [if_pos (by kernel_rfl)]
  refine wp_allocK 22 (By 0 32) rfl (fun w => by_alloc w) ?_
  have hb := Below.alloc1 n5 (.cells (By 0 32).toArray 22)
  have hCn := Row.new n5 (By 0 32) 22
  have geC := hH.size
  have hHn := hH.trans (hb.mono hH.size)
  refine hK.out _ _ hHn (fun _ => ?_)
  clear hK K hb
  generalize n5.alloc (.cells (By 0 32).toArray 22) = x5 at hHn hCn ⊢
  generalize n5.heap.size = gC at hCn geC ⊢
  clear hH
  have hH := hHn
  have hC := hCn
  clear hHn hCn
  all_goals
   refine wpAnyH_ready (rs := [9]) (by kernel_rfl) (by simp) ?_
   refine AllReadyH.cons rfl (fun K hK => ?_) AllReadyH.nil
   rw [if_pos (by kernel_rfl)]
   refine wp_store_row 22 (.tmp 11) (.tmp 37) rfl gC (By kk 32).toArray rfl rfl 22 _ hC (by_info _) (By_sz _ _) (By_one32 _) ?_
   have hC2 := hC.setRow (By kk 32)
   have hH2 := below_setRow (g := gC) hH geC (By kk 32).toArray
   refine hK.out _ _ hH2 (fun hHeld => ?_)
   clear hK K
   refine wpAnyH_done (by kernel_rfl) ?_ _
   exact ⟨rfl, gC, _, _, _, _, _, _, _, _, _, _, _, _, _, _, _, _, _, _, _, rfl, hH2, hC2⟩
 ·rintro a' W2 ⟨gC, v15, v16, v17, v18, v19, v20, v21, v22, v23, v24, v25, v26, v27, v28, v29, v30, v32, v34, v36, rfl, hb, hC⟩
  have hl9 := H94.out.lt
  have HC := yH hC
  have H10 := yH (H104.out.belowAll hb)
  have H9 := yH (H94.out.belowAll hb)
  have H7 := yH (H74.out.belowAll hb)
  have HZR := yH (HZ4.out.belowAll hb)
  have HW := yH (HW4.out.trans (hb.mono HW4.out.size))
  clear hC hb H104 H94 H74 HR4 HK4 HZ4 HW4 HH HXL SF SK HI HZ hl9
  have hmd := fun w => muladd_doc kk n r HKK.out hn256 hr256 w
  have hS : sbS N Y l < 256 ^ 32 := by rw [HSB2.out]; exact Nat.lt_trans (Nat.mod_lt _ qq_pos) (by decide)
  rw [← HSB2.out] at hmd
  obtain ⟨S, hes⟩ : ∃ S, S = sbS N Y l := ⟨_, rfl⟩
  rw [← hes] at hmd hS
  have HES := yH hes
  have HMD := yH hmd
  clear hmd HSB2 hes
  go_wp2_with (first
   | (refine wpList_load_row rfl 22 (.tmp 11) rfl gC rfl 22 _ (0, 0) _ HC.out Tryz.underlying22 rfl (by_info _) ?_)
   | (refine wpList_load_row rfl 22 (.tmp 7) rfl g7 rfl 22 _ (0, 0) _ H7.out Tryz.underlying22 rfl (by_info _) ?_)
   | (refine wpList_load_row rfl 22 (.tmp 9) rfl g9 rfl 22 _ (0, 0) _ H9.out Tryz.underlying22 rfl (by_info _) ?_))
  refine (HMD.out _).mono ?_
  rintro e w8 ⟨rfl, hb⟩
  have h12 := Row.new w8 (By 0 32) 22
  have hb2 := below_setRow (g := w8.heap.size) (hb.alloc hb.size (.cells (By 0 32).toArray 22)) hb.size (By S 32).toArray
  have H12 := yH h12
  have H12R := yH (h12.setRow (By S 32))
  have H108 := yH (H10.out.belowAll hb2)
  have HZ8 := yH (HZR.out.belowAll hb2)
  have HW8 := yH (HW.out.trans (hb2.mono HW.out.size))
  clear hb h12 hb2 HC H10 H9 H7 HZR HW HMD
  go_upto_region 6 with (refine wpList_store_row rfl 22 (.tmp 12) (.tmp 41) rfl w8.heap.size _ rfl rfl 22 _ H12.out (by_info _) (By_sz _ _) (By_one32 _) ?_)
  have h12 := H12R.out
  have h10 := H108.out
  have hz := HZ8.out
  have hw := HW8.out
  clear H12 H12R H108 HZ8 HW8
  change Code.wp _ _ _ _ ((w8.alloc (.cells (By 0 32).toArray 22)).setRow w8.heap.size (By S 32).toArray)
  generalize (w8.alloc (.cells (By 0 32).toArray 22)).setRow w8.heap.size (By S 32).toArray = W5 at *
  generalize w8.heap.size = g12 at *
  have l10 := h10.lt
  have l12 := h12.lt
  have lz := hz.lt
  have lw := hw.size
  have H12 := yH h12
  have H10 := yH h10
  have HZR := yH hz
  have HW := yH hw
  clear h12 h10 hz hw
  go_wp2_with fail
  go_loopw [14] (fun i wr => ∃ k : Nat, k ≤ 32 ∧ i = .int .i64 (k : Int) ∧ Row wr W5.heap.size 30 (sgT F S k) ∧ Row wr g10 22 (By F 32) ∧ Row wr g12 22 (By S 32) ∧ Row wr (w.heap.size + 1 + 1) 30 (List.replicate 64 (.int .u8 0)) ∧ Below w.heap.size w wr) (fun i _ => 32 - (intOf i).toNat)
  case atStart =>
   refine ⟨0, Nat.zero_le _, rfl, ?_, H10.out.alloc _, H12.out.alloc _, HZR.out.alloc _, HW.out.alloc HW.out.size _⟩
   rw [sgT_0]
   exact Row.new W5 (List.replicate 64 (.int .u8 0)) _
  case round =>
   obtain ⟨k, hkn, rfl, h13, h10, h12, hz, hbe⟩ := hrel
   by_cases hlt : k < 32
   ·have o1 := sgT_get1 F S hlt
    have o2 := sgT_get2 F S hlt
    have t1 := sgT_set1 F S hlt
    have t2 := sgT_set2 F S hlt
    have c1 : ∀ w', Row w' g10 22 (By F 32) → w'.cell? ⟨g10, k, none⟩ = some (.int .u8 ((byt F k : Nat) : Int)) := fun w' h => h.cell (By_get F 32 hlt)
    have c2 : ∀ w', Row w' g12 22 (By S 32) → w'.cell? ⟨g12, k, none⟩ = some (.int .u8 ((byt S k : Nat) : Int)) := fun w' h => h.cell (By_get S 32 hlt)
    generalize byt F k = x at *
    generalize byt S k = y at *
    have n10 : g10 ≠ W5.heap.size := by omega
    have n12 : g12 ≠ W5.heap.size := by omega
    have nz : w.heap.size + 1 + 1 ≠ W5.heap.size := by omega
    have hge : w.heap.size ≤ W5.heap.size := by omega
    generalize W5.heap.size = g13 at *
    have C1 := yH c1
    have C2 := yH c2
    have H13 := yH h13
    have H10B := yH h10
    have H12B := yH h12
    have HZB := yH hz
    have HBB := yH hbe
    have O1 := yH o1
    have O2 := yH o2
    have T1 := yH t1
    have T2 := yH t2
    clear c1 c2 h13 h10 h12 hz hbe o1 o2 t1 t2 H10 H12 HZR HW
    go_upto_region 10 with fail
    refine wp_region_any (by kernel_rfl) ?_
    change wpAny _ _ _ _ _ _ _ (World.drew _)
    refine wpAny_of_held (S := (fun w' : World => Row w' g10 22 (By F 32) ∧ Row w' g12 22 (By S 32))) _ _ _ _ ?_
    have hHeld := (And.intro (H10B.out.drewN 1) (H12B.out.drewN 1))
    refine tg 0 46 rfl rfl (by kernel_rfl) (fun _ _ _ h => h) (by rfl) hHeld (fun w' hSw => ex_move (x := .tmp 14) rfl rfl) ?_
    simp only [Act.put, yA, yB, yC]
    refine tg 1 47 rfl rfl (by kernel_rfl) (fun _ _ _ h => h) (by rfl) hHeld (fun w' hSw => ex_move (x := .tmp 14) rfl rfl) ?_
    simp only [Act.put, yA, yB, yC]
    refine tg 2 48 rfl rfl (by kernel_rfl) (fun _ _ _ h => h) (by rfl) hHeld (fun w' hSw => ex_bin .add 3 3 (.const (.int .i64 32)) (.tmp 47) rfl (.int .i64 ((32 : Nat) : Int)) (.int .i64 (k : Int)) _ rfl rfl (intAdg _ _ _ _ w') (intAd 32 k _ rfl (by omega) w')) ?_
    simp only [Act.put, yA, yB, yC]
    refine tg 3 49 rfl rfl (by kernel_rfl) (fun _ _ _ h => h) (by rfl) hHeld (fun w' hSw => ex_move (x := .tmp 14) rfl rfl) ?_
    simp only [Act.put, yA, yB, yC]
    refine tg 4 50 rfl rfl (by kernel_rfl) (fun _ _ _ h => h) (by rfl) hHeld (fun w' hSw => ex_ix 22 (.tmp 10) (.tmp 49) rfl _ _ _ rfl rfl (ix32 _ k hlt w')) ?_
    simp only [Act.put, yA, yB, yC]
    refine tg 5 51 rfl rfl (by kernel_rfl) (fun _ _ _ h => h) (by rfl) hHeld (fun w' hSw => ex_ld 5 (.tmp 50) rfl _ _ rfl (ld_by (C1.out _ hSw.1))) ?_
    simp only [Act.put, yA, yB, yC]
    refine tg 6 52 rfl rfl (by kernel_rfl) (fun _ _ _ h => h) (by rfl) hHeld (fun w' hSw => ex_move (x := .tmp 14) rfl rfl) ?_
    simp only [Act.put, yA, yB, yC]
    refine tg 7 53 rfl rfl (by kernel_rfl) (fun _ _ _ h => h) (by rfl) hHeld (fun w' hSw => ex_ix 22 (.tmp 12) (.tmp 52) rfl _ _ _ rfl rfl (ix32 _ k hlt w')) ?_
    simp only [Act.put, yA, yB, yC]
    refine tg 8 54 rfl rfl (by kernel_rfl) (fun _ _ _ h => h) (by rfl) hHeld (fun w' hSw => ex_ld 5 (.tmp 53) rfl _ _ rfl (ld_by (C2.out _ hSw.2))) ?_
    simp only [Act.put, yA, yB, yC]
    refine tg 9 55 rfl rfl (by kernel_rfl) (fun _ _ _ h => h) (by rfl) hHeld (fun w' hSw => ex_ix 30 (.tmp 13) (.tmp 46) rfl _ _ _ rfl rfl (ix64 _ k (by omega) w')) ?_
    simp only [Act.put, yA, yB, yC]
    refine wpAnyH_ready (rs := [10]) (by kernel_rfl) (by simp) ?_
    refine AllReadyH.cons rfl (fun K hK => ?_) AllReadyH.nil
    rw [if_pos (by kernel_rfl)]
    have h13 : Row wr.drew g13 30 (sgT F S k) := H13.out.drewN 1
    have h10 : Row wr.drew g10 22 (By F 32) := H10B.out.drewN 1
    have h12 : Row wr.drew g12 22 (By S 32) := H12B.out.drewN 1
    have hz : Row wr.drew (w.heap.size + 1 + 1) 30 (List.replicate 64 (.int .u8 0)) := HZB.out.drewN 1
    refine wp_store_byte (.tmp 55) (.tmp 51) rfl ⟨g13, k, none⟩ _ (x : Int) rfl rfl (h13.cell O1.out) (h13.free k) ?_
    have q13 := h13.set k (.int .u8 (x : Int))
    rw [T1.out] at q13
    have q10 := h10.setCell (p := ⟨g13, k, none⟩) n10 (.int .u8 (x : Int))
    have q12 := h12.setCell (p := ⟨g13, k, none⟩) n12 (.int .u8 (x : Int))
    have qz := hz.setCell (p := ⟨g13, k, none⟩) nz (.int .u8 (x : Int))
    have qb := HBB.out.drew.setCell (p := ⟨g13, k, none⟩) hge (.int .u8 (x : Int))
    refine hK.out _ _ ⟨q10, q12⟩ (fun hHeld => ?_)
    clear hK K
    generalize (World.setCell _ ⟨g13, k, none⟩ _) = W1 at *
    refine tg 11 56 rfl rfl (by kernel_rfl) (fun _ _ _ h => h) (by rfl) hHeld (fun w' hSw => ex_ix 30 (.tmp 13) (.tmp 48) rfl _ _ _ rfl rfl (ix64 _ (32 + k) (by omega) w')) ?_
    simp only [Act.put, yA, yB, yC]
    refine wpAnyH_ready (rs := [12]) (by kernel_rfl) (by simp) ?_
    refine AllReadyH.cons rfl (fun K hK => ?_) AllReadyH.nil
    rw [if_pos (by kernel_rfl)]
    refine wp_store_byte (.tmp 56) (.tmp 54) rfl ⟨g13, 32 + k, none⟩ _ (y : Int) rfl rfl (q13.cell O2.out) (q13.free (32 + k)) ?_
    have m13 := q13.set (32 + k) (.int .u8 (y : Int))
    rw [T2.out] at m13
    have m10 := q10.setCell (p := ⟨g13, 32 + k, none⟩) n10 (.int .u8 (y : Int))
    have m12 := q12.setCell (p := ⟨g13, 32 + k, none⟩) n12 (.int .u8 (y : Int))
    have mz := qz.setCell (p := ⟨g13, 32 + k, none⟩) nz (.int .u8 (y : Int))
    have mb := qb.setCell (p := ⟨g13, 32 + k, none⟩) hge (.int .u8 (y : Int))
    refine hK.out _ _ ⟨m10, m12⟩ (fun hHeld => ?_)
    clear hK K
    generalize (World.setCell _ ⟨g13, 32 + k, none⟩ _) = W2 at *
    refine wpAnyH_done (by kernel_rfl) ?_ _
    have M13 := yH m13
    have M10 := yH m10
    have M12 := yH m12
    have MZ := yH mz
    have MB := yH mb
    clear m13 m10 m12 mz mb q13 q10 q12 qz qb h13 h10 h12 hz hHeld
    go_wp2_with fail
    go_roundw
    case rel => exact ⟨k + 1, by omega, by go_num, M13.out, M10.out, M12.out, MZ.out, MB.out⟩
    case measure => simp [intOf] <;> omega
   ·obtain rfl : k = 32 := by omega
    rw [sgT_32] at h13
    have H13 := yH h13
    have HZB := yH hz
    have HBB := yH hbe
    clear h13 h10 h12 hz hbe H10 H12 HZR HW
    generalize W5.heap.size = g13 at *
    go_wp2_with (first
     | (refine wpList_load_row rfl 30 (.tmp 13) rfl g13 rfl 30 _ (0, 0) _ H13.out Tryz.underlying30 rfl (slb_info _ _) ?_)
     | (refine wpList_store_row rfl 30 (.tmp 6) (.tmp 57) rfl (w.heap.size + 1 + 1) _ rfl rfl 30 _ HZB.out (slb_info _ _) (slz_sz _ _) (SL_one _ _) ?_))
    have hgot := setRow_heap wr (w.heap.size + 1 + 1) _ (SL F S).toArray _ _ HZB.out
    refine bodyPost_ret (results_cell_row (by rfl) _ _ (w.heap.size + 1 + 1) _ _ _ _ (by rfl) hgot Tryz.underlying30 rfl (slb_info _ _)) rfl ?_
    exact ⟨by rw [← HEF.out, ← HES.out], below_setRow HBB.out (by omega) _⟩
set_option maxHeartbeats 3200000 in
theorem sgn_ref (N : Nat) (l : List Nat) {A : Option Addr} {m c : Nat} (w : World) (hx : ∀ x ∈ l, x < 256) (r : Rd w (fun _ => True) A m (N8 l)) (hm : m ≤ 1000) :
  Calls Tryz.prog 11 #[.agg (By N 32).toArray, .slice A m c] w fun e w' => e = .returned (.agg (SL (sgF N l) (sgS N l)).toArray) ∧ Below w.heap.size w w' := by
 have hs := (Row.new w (By N 32) 22).alloc (.cells (List.replicate 64 (.int .u8 0)).toArray 30)
 have hz := Row.new1 w (.cells (By N 32).toArray 22) (List.replicate 64 (.int .u8 0)) 30
 have hW := Below.alloc2 w (.cells (By N 32).toArray 22) (.cells (List.replicate 64 (.int .u8 0)).toArray 30)
 have hsy : ∀ w, Rd w (fun _ => True) A m (N8 l) → Calls Tryz.prog 29 #[.agg (By N 32).toArray, .agg (By (pbN N) 32).toArray, .slice A m c] w fun e w' => e = .returned (.agg (SL (sgF N l) (sgS N l)).toArray) ∧ Below w.heap.size w w' := fun w h => sby_ref N (pbN N) l w hx h hm
 have hpb := fun w => pub_ref N w
 have HSY := yH hsy
 have HPB := yH hpb
 have HR := yH (r.belowAll hW)
 have HS := yH hs
 have HZ := yH hz
 have HW := yH hW
 clear hs hz hW hsy hpb r hx hm
 go_enter Tryz.func11, Tryz.ntmps11
 go_upto_region 1 with fail
 change Code.wp _ _ _ _ ((w.alloc (.cells (By N 32).toArray 22)).alloc (.cells (List.replicate 64 (.int .u8 0)).toArray 30))
 generalize (w.alloc (.cells (By N 32).toArray 22)).alloc (.cells (List.replicate 64 (.int .u8 0)).toArray 30) = W2 at *
 refine wp_flat_store (aD := ?aD1) (S := fun w' => Below W2.heap.size W2 w') (s := 5) (T := 30) (T' := 30) (g := w.heap.size + 1) (z := List.replicate 64 (.int .u8 0)) (c := SL (sgF N l) (sgS N l)) (x := .tmp 4) (y := .tmp 9)
  (vs := [(0, .agg (By N 32).toArray), (1, .agg (By N 32).toArray), (2, .agg (By (pbN N) 32).toArray), (3, .slice A m c), (4, .agg (SL (sgF N l) (sgS N l)).toArray)]) (by kernel_rfl) ((Below.refl _ _).drew) (fun _ _ h k => S_trans h k) ?hD1 ?hk1 rfl rfl rfl rfl ?ea1 ?eb1 (fun w' h => HZ.out.belowAll h) (slb_info _ _) (slz_sz _ _) (SL_one _ _) ?h1
 case hD1 =>
  refine .s 5 rfl (Gives.l 22 (.tmp 2) w.heap.size (fun w' h => HS.out.belowAll h) Tryz.underlying22 (by_info _)) ?_
  refine .s 6 rfl (Gives.l 22 (.tmp 2) w.heap.size (fun w' h => HS.out.belowAll h) Tryz.underlying22 (by_info _)) ?_
  refine .s 7 rfl (Gives.c (args := [.agg (By N 32).toArray]) rfl Tryz.func9 (fun w' h => HPB.out w')) ?_
  refine .s 8 rfl (Gives.move (x := .tmp 1) rfl rfl) ?_
  refine .s 9 rfl (Gives.c (args := [.agg (By N 32).toArray, .agg (By (pbN N) 32).toArray, .slice A m c]) rfl Tryz.func29 (fun w' h => HSY.out w' (HR.out.belowAll h))) ?_
  exact .nil
 case hk1 => kernel_rfl
 case ea1 => rfl
 case eb1 => rfl
 case h1 =>
 intro W5 hb
 have HRF := yH ((HZ.out.belowAll hb).setRow (SL (sgF N l) (sgS N l)))
 have HW5 := yH (below_setRow (g := w.heap.size + 1) (HW.out.trans (hb.mono HW.out.size)) (by omega) (SL (sgF N l) (sgS N l)).toArray)
 clear hb HS HZ HW HR
 go_wp2_with fail
 refine bodyPost_ret (results_cell_row (by rfl) _ _ (w.heap.size + 1) _ _ _ _ (by rfl) HRF.out Tryz.underlying30 rfl (slb_info _ _)) rfl ?_
 exact ⟨rfl, HW5.out⟩
end Go.Proofs.YtnpjecdodhkplaaGreatDoor
