import Derived.Test.YtnpjecdodhkplaaGreatDoorTD
namespace Go.Proofs.YtnpjecdodhkplaaGreatDoor
set_option maxRecDepth 100000
open Go.RowKit
open List renaming setIfInBounds_toArray → yA, set_cons_zero → yB, set_cons_succ → yC
open Lib renaming hid → yH
set_option maxHeartbeats 4000000 in
theorem block64 (A B ph ch pm om cm : Nat) (s : S8x64) (ms : List Nat) (w : World) (ho : s.ok) (hl : ms.length = 128) (hx : ∀ x ∈ ms, x < 256) (hB : Row w B 59 (Vs64 rc64)) (hh : w.rangeAt ph 0 (Vs64 s.list)) (hhl : ph < w.heap.size)
  (hm : w.rangeAt pm om (ms.map fun x => .int .u8 ((x : Nat) : Int))) (hml : pm < w.heap.size) :
  Calls Tryz.prog 120 #[.agg (KdL64 A B).toArray, .slice (some ⟨ph, 0, none⟩) 8 ch, .slice (some ⟨pm, om, none⟩) 128 cm] w fun e w' => ∃ v, e = .returned v ∧ w'.ownsRow w.heap.size 59 1 v 8 (Vs64 (mxs64 s (wds64 ms)).list) ∧ Below w.heap.size w w' := by
 obtain ⟨i0, hi, hz0, hz1, hz2⟩ := info_parts u64_info64
 have hrow0 : Row (w.alloc (.cells (KdL64 A B).toArray 130)) w.heap.size 130 (KdL64 A B) := Row.new _ _ _
 have hb0 : Below w.heap.size w (w.alloc (.cells (KdL64 A B).toArray 130)) := (Below.refl _ _).alloc (Nat.le_refl _) _
 have HI := yH hi
 have HZ0 := yH hz0
 have HZ1 := yH hz1
 have HZ2 := yH hz2
 have HO := yH ho
 have HL := yH hl
 have HX := yH hx
 have HB := yH hB
 have HH := yH hh
 have HHL := yH hhl
 have HM := yH hm
 have HML := yH hml
 have HROW0 := yH hrow0
 have HB0 := yH hb0
 clear hi hz0 hz1 hz2 ho hl hx hB hh hhl hm hml hrow0 hb0
 go_enter Tryz.func120, Tryz.ntmps120
 go_wp2_with fail
 go_loopw [7, 8, 9, 10] (fun v i _ _ wr => ∃ n : Nat, n ≤ 80 ∧ i = .int .i64 n ∧ wr.ownsRow (w.heap.size + 1) 59 1 v n (Vs64 ((ful64 (wds64 ms)).take n)) ∧ Row wr w.heap.size 130 (KdL64 A B) ∧ Below w.heap.size w wr) (fun _ i _ _ _ => 80 - (intOf i).toNat)
 case atStart => exact ⟨0, Nat.zero_le _, rfl, World.ownsRow_nil _ _ _ _, HROW0.out, HB0.out⟩
 case round =>
  obtain ⟨n, hn, rfl, hown, hrow, hbe⟩ := hrel
  obtain ⟨Av, cv, rfl⟩ := own_slice hown
  have c0 := hrow.cell (k := 0) rfl
  have c2 := hrow.cell (k := 2) rfl
  by_cases hlt : n < 80
  ·by_cases h16 : n < 16
   ·have HOWN := yH hown
    have HROW := yH hrow
    have HBE := yH hbe
    clear hown hrow hbe
    go_wp2_with fail
    go_loopw [9, 10] (fun x j wx => ∃ k q : Nat, k ≤ 8 ∧ j = .int .i64 k ∧ x = .int .u64 ((wpt64 ms n k : Nat) : Int) ∧ wx = wr.drewN q) (fun _ j _ => 8 - (intOf j).toNat)
    case atStart => exact ⟨0, 0, Nat.zero_le _, rfl, rfl, rfl⟩
    case round =>
     obtain ⟨k, q, hk, rfl, rfl, rfl⟩ := hrel
     by_cases hlk : k < 8
     ·have hw := wpt64_lt HX.out n k
      have hpw : 256 ^ k ≤ 256 ^ 7 := Nat.pow_le_pow_right (by decide) (by omega)
      have hx56 : wpt64 ms n k < 72057594037927936 := by omega
      have hstep : wpt64 ms n (k + 1) = wpt64 ms n k * 256 + ms.getD (n * 8 + k) 0 := rfl
      have hc256 := getD256 HX.out (n * 8 + k)
      have hcell : wr.cell? ⟨pm, om + (n * 8 + k), none⟩ = some (.int .u8 ((ms.getD (n * 8 + k) 0 : Nat) : Int)) := (HBE.out.cell (p := ⟨pm, om + (n * 8 + k), none⟩) HML.out).trans (HM.out _ _ (by rw [List.getElem?_map, List.getD, List.getElem?_eq_getElem (by rw [HL.out]; omega)]; rfl))
      have HSTEP := yH hstep
      clear hstep hw hpw
      generalize ms.getD (n * 8 + k) 0 = c at *
      generalize wpt64 ms n k = x at *
      have HX56 := yH hx56
      clear hx56
      have q1 : (n : Int) * 64 / 8 = (n : Int) * 8 := by omega
      go_wp2_with fail
      go_roundw
      case rel => exact ⟨k + 1, q, by omega, by go_num, by rw [HSTEP.out, xorbyte64 x c HX56.out hc256], rfl⟩
      case measure => simp [intOf]; omega
     ·obtain rfl : k = 8 := by omega
      have hval : wpt64 ms n 8 = (ful64 (wds64 ms)).getD n 0 := by rw [ful64_lo (wds64_len ms) h16, wds64_get ms h16]
      rw [hval]
      clear hval
      have hown : (wr.drewN q).ownsRow (w.heap.size + 1) 59 1 (.slice Av n cv) n (Vs64 ((ful64 (wds64 ms)).take n)) := HOWN.out
      have hrow := (HROW.out.drewN q)
      have hbe := below_drewN HBE.out q
      have d0 := hrow.cell (k := 0) rfl
      clear c0 c2
      generalize wr.drewN q = wy at *
      have hsz : w.heap.size + 1 ≤ wy.heap.size := by have := hrow.lt; omega
      have hup := ful64_succ (wds64_len ms) hlt
      generalize (ful64 (wds64 ms)).getD n 0 = x at *
      have HOWN2 := yH hown
      have HROW2 := yH hrow
      have HBE2 := yH hbe
      have HSZ := yH hsz
      have HUP := yH hup
      clear hown hrow hbe hsz hup
      go_wp2_with (at_builtin; refine wpList_append_rd _ rfl (.tmp 81) (.tmp 83) 127 rfl (w.heap.size + 1) 59 i0 (.int .u64 0) 8 Tryz.underlying127 HI.out HZ0.out HZ1.out HZ2.out rfl (.slice Av n cv) n (Vs64 ((ful64 (wds64 ms)).take n)) rfl (HOWN2.out.alloc _) (fun j => j = wy.heap.size) (some ⟨wy.heap.size, 0, none⟩) 1 1 (Vs64 [x]) rfl (Rd.lit wy (Vs64 [x]) _ _ rfl 1 rfl) (Vs64_one _) (by unfold maxLen; omega) (by omega) (by have := HSZ.out; simp; omega) ?_)
      intro v' w2 hown2 hg2 _
      have hrow2 : Row w2 w.heap.size 130 (KdL64 A B) := ((Below.refl (w.heap.size + 1) wy).alloc HSZ.out _ |>.grown hg2 (by have := HSZ.out; simp; omega) (fun j hj => (HOWN2.out.lt j hj).1) |>.block _ (by omega)).trans HROW2.out
      have hb2 : Below w.heap.size w w2 := (HBE2.out.alloc HBE2.out.size _).grown hg2 (by have := HBE2.out.size; simp; omega) (fun j hj => by have := (HOWN2.out.lt j hj).1; omega)
      rw [← Vs64_append, ← HUP.out] at hown2
      have HO2 := yH hown2
      have HR2 := yH hrow2
      have HB2 := yH hb2
      clear hown2 hg2 hrow2 hb2
      go_wp2_with fail
      go_roundw
      case rel => exact ⟨n + 1, by omega, by go_num, HO2.out, HR2.out, HB2.out⟩
      case measure => simp [intOf]; omega
   ·have hgw := hown.form (by omega)
    obtain ⟨gw, cap, hv, hgb, hgl⟩ := hgw
    injection hv with hA _ hC
    subst hA hC
    have hcs := hown.cells (g := gw) rfl
    have hful := ful64_hi (wds64_len ms) (Nat.le_of_not_lt h16) hlt
    have hcell : ∀ k, k < n → wr.cell? ⟨gw, k, none⟩ = some (.int .u64 (((ful64 (wds64 ms)).getD k 0 : Nat) : Int)) := fun k hk => by
     have hk2 : k < (ful64 (wds64 ms)).length := by rw [ful64_len (wds64_len ms)]; omega
     have h := hcs k (.int .u64 (((ful64 (wds64 ms)).getD k 0 : Nat) : Int)) (by rw [Vs64_get, List.getElem?_take, if_pos hk, List.getD, List.getElem?_eq_getElem hk2]; rfl)
     have e : (⟨gw, 0, none⟩ : Addr).add k = ⟨gw, k, none⟩ := by unfold Addr.add; split <;> simp_all
     rwa [e] at h
    have k2 := hcell (n - 2) (by omega)
    have k7 := hcell (n - 7) (by omega)
    have k15 := hcell (n - 15) (by omega)
    have k16 := hcell (n - 16) (by omega)
    have g2 := ful64_at (wds64_lt HX.out) (n - 2)
    have g15 := ful64_at (wds64_lt HX.out) (n - 15)
    generalize (ful64 (wds64 ms)).getD (n - 2) 0 = x2 at *
    generalize (ful64 (wds64 ms)).getD (n - 7) 0 = x7 at *
    generalize (ful64 (wds64 ms)).getD (n - 15) 0 = x15 at *
    generalize (ful64 (wds64 ms)).getD (n - 16) 0 = x16 at *
    have hh0 : (fun w' : World => Row w' w.heap.size 130 (KdL64 A B) ∧ w'.cell? ⟨gw, n - 2, none⟩ = some (.int .u64 ((x2 : Nat) : Int)) ∧ w'.cell? ⟨gw, n - 7, none⟩ = some (.int .u64 ((x7 : Nat) : Int)) ∧ w'.cell? ⟨gw, n - 15, none⟩ = some (.int .u64 ((x15 : Nat) : Int)) ∧ w'.cell? ⟨gw, n - 16, none⟩ = some (.int .u64 ((x16 : Nat) : Int))) wr.drew := ⟨hrow.drewN 1, k2, k7, k15, k16⟩
    have HH0 := yH hh0
    have KI := yH kdInfo64
    have TI := yH t3Info64
    have HFUL := yH hful
    have HOWN := yH hown
    have HROW := yH hrow
    have HBE := yH hbe
    clear hcs hcell hful hh0 k2 k7 k15 k16 hrow hbe hown
    have a2 : (0 : Int) ≤ (n : Int) - 2 := by omega
    have b2 : (n : Int) - 2 < (n : Int) := by omega
    have cc2 : (2 : Int) ≤ (n : Int) := by omega
    have t2 : ((n : Int) - 2).toNat = n - 2 := by omega
    have s2 : IntKind.i64.wrap ((n : Int) - 2) = (n : Int) - 2 := IntWalk.i64_in _ (by omega)
    have a7 : (0 : Int) ≤ (n : Int) - 7 := by omega
    have b7 : (n : Int) - 7 < (n : Int) := by omega
    have cc7 : (7 : Int) ≤ (n : Int) := by omega
    have t7 : ((n : Int) - 7).toNat = n - 7 := by omega
    have s7 : IntKind.i64.wrap ((n : Int) - 7) = (n : Int) - 7 := IntWalk.i64_in _ (by omega)
    have a15 : (0 : Int) ≤ (n : Int) - 15 := by omega
    have b15 : (n : Int) - 15 < (n : Int) := by omega
    have cc15 : (15 : Int) ≤ (n : Int) := by omega
    have t15 : ((n : Int) - 15).toNat = n - 15 := by omega
    have s15 : IntKind.i64.wrap ((n : Int) - 15) = (n : Int) - 15 := IntWalk.i64_in _ (by omega)
    have a16 : (0 : Int) ≤ (n : Int) - 16 := by omega
    have b16 : (n : Int) - 16 < (n : Int) := by omega
    have cc16 : (16 : Int) ≤ (n : Int) := by omega
    have t16 : ((n : Int) - 16).toNat = n - 16 := by omega
    have s16 : IntKind.i64.wrap ((n : Int) - 16) = (n : Int) - 16 := IntWalk.i64_in _ (by omega)
    have bi : (n : Int) < 80 := by omega
    have d16 : decide ((n : Int) < 16) = false := by simp; omega
    go_wp2_with fail
    refine wp_region_any (by kernel_rfl) ?_
    change wpAny _ _ _ _ _ _ _ (World.drew _)
    refine wpAny_of_held (S := (fun w' : World => Row w' w.heap.size 130 (KdL64 A B) ∧ w'.cell? ⟨gw, n - 2, none⟩ = some (.int .u64 ((x2 : Nat) : Int)) ∧ w'.cell? ⟨gw, n - 7, none⟩ = some (.int .u64 ((x7 : Nat) : Int)) ∧ w'.cell? ⟨gw, n - 15, none⟩ = some (.int .u64 ((x15 : Nat) : Int)) ∧ w'.cell? ⟨gw, n - 16, none⟩ = some (.int .u64 ((x16 : Nat) : Int)))) _ _ _ _ ?_
    have hHeld := HH0.out
    have hl : Ls [(1, 48), (2, 49), (3, 50), (4, 51), (6, 53), (9, 56), (10, 57), (11, 58), (12, 59), (16, 63), (17, 64), (18, 65), (19, 66), (21, 68), (25, 72), (26, 73), (27, 74), (28, 75), (31, 78)] := trivial
    repeat
     refine tkl hl (v := ?_) rfl rfl (by kernel_rfl) (fun _ _ _ h => h) (by rfl) ?_ hHeld ?_
     rotate_left
     ·(intro w' hSw; go_simp; try (with_reducible rfl))
     simp only [Act.put, yA, yB, yC]
     replace hl := hl.tl
    clear hl
    refine wpAnyH_take (i := 0) (v := .agg (KdL64 A B).toArray) rfl (by kernel_rfl) (by kernel_rfl) (by kernel_rfl) (fun _ _ _ h => h) (yieldsIf_load_mid (by rfl) 130 (.tmp 3) rfl w.heap.size 0 rfl (KdL64 A B) _ (fun w' hSw => hSw.1.range) (by rfl) rfl KI.out) hHeld ?_
    change wpAnyH _ _ _ _ _ _ _ (Act.put _ (some 47) _) _
    simp only [Act.put, yA, yB, yC]
    refine wpAnyH_take (i := 15) (v := .agg (KdL64 A B).toArray) rfl (by kernel_rfl) (by kernel_rfl) (by kernel_rfl) (fun _ _ _ h => h) (yieldsIf_load_mid (by rfl) 130 (.tmp 3) rfl w.heap.size 0 rfl (KdL64 A B) _ (fun w' hSw => hSw.1.range) (by rfl) rfl KI.out) hHeld ?_
    change wpAnyH _ _ _ _ _ _ _ (Act.put _ (some 62) _) _
    simp only [Act.put, yA, yB, yC]
    refine wpAnyH_take (i := 7) (v := .agg ([.int .i64 19, .int .i64 61, .int .i64 6]).toArray) rfl (by kernel_rfl) (by kernel_rfl) (by kernel_rfl) (fun _ _ _ h => h) (yieldsIf_load_mid (by rfl) 128 (.tmp 53) rfl w.heap.size 12 rfl ([.int .i64 19, .int .i64 61, .int .i64 6]) _ (fun w' hSw => rowmid64 hSw.1 12 rfl) (by rfl) rfl TI.out) hHeld ?_
    change wpAnyH _ _ _ _ _ _ _ (Act.put _ (some 54) _) _
    simp only [Act.put, yA, yB, yC]
    refine wpAnyH_take (i := 22) (v := .agg ([.int .i64 1, .int .i64 8, .int .i64 7]).toArray) rfl (by kernel_rfl) (by kernel_rfl) (by kernel_rfl) (fun _ _ _ h => h) (yieldsIf_load_mid (by rfl) 128 (.tmp 68) rfl w.heap.size 9 rfl ([.int .i64 1, .int .i64 8, .int .i64 7]) _ (fun w' hSw => rowmid64 hSw.1 9 rfl) (by rfl) rfl TI.out) hHeld ?_
    change wpAnyH _ _ _ _ _ _ _ (Act.put _ (some 69) _) _
    simp only [Act.put, yA, yB, yC]
    refine tk 5 52 (v := ?_) rfl rfl (by kernel_rfl) (fun _ _ _ h => h) (by rfl) ?_ hHeld ?_
    rotate_left
    ·(intro w' hSw; have c0 := hSw.2.1; go_simp; try (with_reducible rfl))
    simp only [Act.put, yA, yB, yC]
    refine tk 13 60 (v := ?_) rfl rfl (by kernel_rfl) (fun _ _ _ h => h) (by rfl) ?_ hHeld ?_
    rotate_left
    ·(intro w' hSw; have c0 := hSw.2.2.1; go_simp; try (with_reducible rfl))
    simp only [Act.put, yA, yB, yC]
    refine tk 20 67 (v := ?_) rfl rfl (by kernel_rfl) (fun _ _ _ h => h) (by rfl) ?_ hHeld ?_
    rotate_left
    ·(intro w' hSw; have c0 := hSw.2.2.2.1; go_simp; try (with_reducible rfl))
    simp only [Act.put, yA, yB, yC]
    refine tk 29 76 (v := ?_) rfl rfl (by kernel_rfl) (fun _ _ _ h => h) (by rfl) ?_ hHeld ?_
    rotate_left
    ·(intro w' hSw; have c0 := hSw.2.2.2.2; go_simp; try (with_reducible rfl))
    simp only [Act.put, yA, yB, yC]
    refine tk 32 79 (v := ?_) rfl rfl (by kernel_rfl) (fun _ _ _ h => h) (by rfl) ?_ hHeld ?_
    rotate_left
    ·(intro w' hSw; have c0 := hSw.1.cell (k := 16) rfl; go_simp; try (with_reducible rfl))
    simp only [Act.put, yA, yB, yC]
    refine wpAnyH_ready (rs := [8]) (by kernel_rfl) (by simp) ?_
    refine AllReadyH.cons rfl (fun K hK => ?_) AllReadyH.nil
    rw [if_pos (by kernel_rfl)]
    go_simp
    refine (rsml64 A B x2 19 61 6 _ g2 (by decide) (by decide) (by decide) (by decide) (by decide)).mono ?_
    rintro e w3 ⟨rfl, hb3⟩
    have hbl3 := (Below.lt_of64 hb3 hHeld.2.1)
    refine hK.out _ _ ⟨hHeld.1.belowAll hb3, hbl3 _ _ hHeld.2.1, hbl3 _ _ hHeld.2.2.1, hbl3 _ _ hHeld.2.2.2.1, hbl3 _ _ hHeld.2.2.2.2⟩ (fun hHeld => ?_)
    clear hK K
    have HBB3 := yH hb3
    clear hb3 hbl3
    refine tk 14 61 (v := ?_) rfl rfl (by kernel_rfl) (fun _ _ _ h => h) (by rfl) ?_ hHeld ?_
    rotate_left
    ·(intro w' hSw; go_simp; try (with_reducible rfl))
    simp only [Act.put, yA, yB, yC]
    refine wpAnyH_ready (rs := [23]) (by kernel_rfl) (by simp) ?_
    refine AllReadyH.cons rfl (fun K hK => ?_) AllReadyH.nil
    rw [if_pos (by kernel_rfl)]
    go_simp
    refine (rsml64 A B x15 1 8 7 _ g15 (by decide) (by decide) (by decide) (by decide) (by decide)).mono ?_
    rintro e w4 ⟨rfl, hb4⟩
    have hbl4 := (Below.lt_of64 hb4 hHeld.2.1)
    refine hK.out _ _ ⟨hHeld.1.belowAll hb4, hbl4 _ _ hHeld.2.1, hbl4 _ _ hHeld.2.2.1, hbl4 _ _ hHeld.2.2.2.1, hbl4 _ _ hHeld.2.2.2.2⟩ (fun hHeld => ?_)
    clear hK K
    have HBB4 := yH hb4
    clear hb4 hbl4
    have hl : Ls [(24, 71), (30, 77), (33, 80)] := trivial
    repeat
     refine tkl hl (v := ?_) rfl rfl (by kernel_rfl) (fun _ _ _ h => h) (by rfl) ?_ hHeld ?_
     rotate_left
     ·(intro w' hSw; go_simp; try (with_reducible rfl))
     simp only [Act.put, yA, yB, yC]
     replace hl := hl.tl
    clear hl
    refine wpAnyH_ready (rs := [34]) (by kernel_rfl) (by simp) ?_
    refine AllReadyH.cons rfl (fun K hK => ?_) AllReadyH.nil
    rw [if_pos (by kernel_rfl)]
    go_simp
    refine hK.out _ _ hHeld (fun hHeld => ?_)
    clear hK K
    refine wpAnyH_done (by kernel_rfl) ?_ _
    go_upto_region 12 with fail
    rw [andsum64, ← HFUL.out]
    have hbA : Below wr.heap.size wr w3 := ((Below.refl wr.heap.size wr).drew).trans HBB3.out
    have hbB : Below wr.heap.size wr w4 := hbA.trans (HBB4.out.mono hbA.size)
    have hown : w4.ownsRow (w.heap.size + 1) 59 1 (.slice (some ⟨gw, 0, none⟩) n cv) n (Vs64 ((ful64 (wds64 ms)).take n)) := own_below HOWN.out hbB
    have hrow := HROW.out.belowAll hbB
    have hbe : Below w.heap.size w w4 := HBE.out.trans (hbB.mono HBE.out.size)
    clear hbA hbB a2 b2 cc2 t2 s2 a7 b7 cc7 t7 s7 a15 b15 cc15 t15 s15 a16 b16 cc16 t16 s16 bi d16
    generalize w4 = wy at *
    have hsz : w.heap.size + 1 ≤ wy.heap.size := by have := hrow.lt; omega
    have hup := ful64_succ (wds64_len ms) hlt
    generalize (ful64 (wds64 ms)).getD n 0 = x at *
    have HOWN2 := yH hown
    have HROW2 := yH hrow
    have HBE2 := yH hbe
    have HSZ := yH hsz
    have HUP := yH hup
    clear hown hrow hbe hsz hup
    go_wp2_with (at_builtin; refine wpList_append_rd _ rfl (.tmp 81) (.tmp 83) 127 rfl (w.heap.size + 1) 59 i0 (.int .u64 0) 8 Tryz.underlying127 HI.out HZ0.out HZ1.out HZ2.out rfl (.slice (some ⟨gw, 0, none⟩) n cv) n (Vs64 ((ful64 (wds64 ms)).take n)) rfl (HOWN2.out.alloc _) (fun j => j = wy.heap.size) (some ⟨wy.heap.size, 0, none⟩) 1 1 (Vs64 [x]) rfl (Rd.lit wy (Vs64 [x]) _ _ rfl 1 rfl) (Vs64_one _) (by unfold maxLen; omega) (by omega) (by have := HSZ.out; simp; omega) ?_)
    intro v' w2 hown2 hg2 _
    have hrow2 : Row w2 w.heap.size 130 (KdL64 A B) := ((Below.refl (w.heap.size + 1) wy).alloc HSZ.out _ |>.grown hg2 (by have := HSZ.out; simp; omega) (fun j hj => (HOWN2.out.lt j hj).1) |>.block _ (by omega)).trans HROW2.out
    have hb2 : Below w.heap.size w w2 := (HBE2.out.alloc HBE2.out.size _).grown hg2 (by have := HBE2.out.size; simp; omega) (fun j hj => by have := (HOWN2.out.lt j hj).1; omega)
    rw [← Vs64_append, ← HUP.out] at hown2
    have HO2 := yH hown2
    have HR2 := yH hrow2
    have HB2 := yH hb2
    clear hown2 hg2 hrow2 hb2
    go_wp2_with fail
    go_roundw
    case rel => exact ⟨n + 1, by omega, by go_num, HO2.out, HR2.out, HB2.out⟩
    case measure => simp [intOf]; omega
  ·obtain rfl : n = 80 := by omega
   have hgw := hown.form (by decide)
   obtain ⟨gw, cap, hv, hgb, hgl⟩ := hgw
   injection hv with hA _ hC
   subst hA hC
   have hcs := hown.cells (g := gw) rfl
   have hft : (ful64 (wds64 ms)).take 80 = ful64 (wds64 ms) := List.take_of_length_le (by rw [ful64_len (wds64_len ms)]; decide)
   rw [hft] at hcs
   have hrw : wr.rangeAt gw 0 (Vs64 (ful64 (wds64 ms))) := fun j v hj => by
    have h := hcs j v hj
    have e : (⟨gw, 0, none⟩ : Addr).add j = ⟨gw, j, none⟩ := by unfold Addr.add; split <;> simp_all
    rw [e] at h
    rwa [Nat.zero_add]
   have hh2 : wr.rangeAt ph 0 (Vs64 s.list) := range64_below HH.out hbe HHL.out
   have hrd : Rd (wr.alloc (.cells #[] 59)) (fun _ => True) (some ⟨ph, 0, none⟩) 8 (Vs64 s.list) := by
    refine ⟨by rw [Vs64_len]; rfl, fun _ => ⟨_, rfl, trivial, by have := HHL.out; have := hbe.size; simp; omega, fun j u hu => ?_⟩⟩
    have e : (⟨ph, 0, none⟩ : Addr).add j = ⟨ph, j, none⟩ := by unfold Addr.add; split <;> simp_all
    rw [e, World.cell?_alloc_lt _ _ _ (show ph < wr.heap.size by have := HHL.out; have := hbe.size; omega)]
    have h := hh2 j u hu
    rwa [Nat.zero_add] at h
   have hbw : w.heap.size ≤ wr.heap.size := hbe.size
   have HRD := yH hrd
   have HROW := yH hrow
   have HBE := yH hbe
   have HRW := yH hrw
   have HGL := yH hgl
   have HBW := yH hbw
   clear hown hcs hft hrw hh2 hrd hrow hbe hgl hbw
   go_upto_region 13 with fail
   clear c0
   go_wp2_with (at_builtin; refine wpList_append_rd _ rfl (.tmp 85) (.tmp 86) 127 rfl wr.heap.size 59 i0 (.int .u64 0) 8 Tryz.underlying127 HI.out HZ0.out HZ1.out HZ2.out rfl (.slice (some ⟨wr.heap.size, 0, none⟩) 0 0) 0 [] rfl (World.ownsRow_made wr #[] 0 (Nat.le_refl _) (by decide) rfl) _ (some ⟨ph, 0, none⟩) 8 ch (Vs64 s.list) rfl HRD.out (Vs64_one _) (by decide) (by decide) (by simp) ?_)
   intro v' w2 hown2 hg2 _
   have hgp := hown2.form (by decide)
   obtain ⟨p, cap2, rfl, hpb, hpl⟩ := hgp
   have hcs2 := hown2.cells (g := p) rfl
   have hrv : w2.rangeAt p 0 (Vs64 s.list) := fun j v hj => by
    have h := hcs2 j v hj
    have e : (⟨p, 0, none⟩ : Addr).add j = ⟨p, j, none⟩ := by unfold Addr.add; split <;> simp_all
    rw [e] at h
    rwa [Nat.zero_add]
   have hb2 : Below wr.heap.size wr w2 := ((Below.refl _ _).alloc (Nat.le_refl _) _).grown hg2 (by simp) (fun j hj => by have hj' : wr.heap.size = j := Option.some.inj hj; omega)
   have hrow2 := HROW.out.belowAll hb2
   have hbe2 : Below w.heap.size w w2 := HBE.out.trans (hb2.mono HBW.out)
   have hrw2 := range64_below HRW.out hb2 HGL.out
   have hgl2 : gw < w2.heap.size := Nat.lt_of_lt_of_le HGL.out hb2.size
   have HRV := yH hrv
   have HROW2 := yH hrow2
   have HBE2 := yH hbe2
   have HRW2 := yH hrw2
   have HGL2 := yH hgl2
   have HPL := yH hpl
   clear hown2 hg2 hcs2 hrv hb2 hrow2 hbe2 hrw2 hgl2 hpb hpl HRD HROW HBE HRW HGL HBW
   go_wp2_with fail
   go_loopw [11, 12, 13, 14] (fun v i _ _ wx => ∃ k p c : Nat, k ≤ 80 ∧ i = .int .i64 k ∧ v = .slice (some ⟨p, 0, none⟩) 8 c ∧ wx.rangeAt p 0 (Vs64 (rst64 s (wds64 ms) k).list) ∧ p < wx.heap.size ∧ Row wx w.heap.size 130 (KdL64 A B) ∧ wx.rangeAt gw 0 (Vs64 (ful64 (wds64 ms))) ∧ gw < wx.heap.size ∧ Below w.heap.size w wx) (fun _ i _ _ _ => 80 - (intOf i).toNat)
   case atStart => exact ⟨0, p, cap2, Nat.zero_le _, rfl, rfl, HRV.out, HPL.out, HROW2.out, HRW2.out, HGL2.out, HBE2.out⟩
   case round =>
    obtain ⟨k, p, c, hk, rfl, rfl, hrv, hpl, hrow, hrw, hgl, hbe⟩ := hrel
    have hok : (rst64 s (wds64 ms) k).ok := rns64_ok HO.out _ _ k
    have hsuc := rst64_succ s (wds64 ms) k
    have c2 := hrow.cell (k := 2) rfl
    by_cases hlt : k < 80
    ·have cR := rg64 (range64_below (HB.out.range) hbe HB.out.lt) (k := k) (by rw [rc64_len]; exact hlt)
     have cX := rg64 hrw (k := k) (by rw [ful64_len (wds64_len ms)]; exact hlt)
     generalize rc64.getD k 0 = rk at *
     generalize (ful64 (wds64 ms)).getD k 0 = xk at *
     rw [rndeq64] at hsuc
     generalize rst64 s (wds64 ms) k = S at *
     obtain ⟨s0, s1, s2, s3, s4, s5, s6, s7⟩ := S
     obtain ⟨h0, h1, h2, h3, h4, h5, h6, h7⟩ := hok
     dsimp only at h0 h1 h2 h3 h4 h5 h6 h7 hsuc
     have v0 := rg64 hrv (k := 0) (by show 0 < 8; decide)
     have v1 := rg64 hrv (k := 1) (by show 1 < 8; decide)
     have v2 := rg64 hrv (k := 2) (by show 2 < 8; decide)
     have v3 := rg64 hrv (k := 3) (by show 3 < 8; decide)
     have v4 := rg64 hrv (k := 4) (by show 4 < 8; decide)
     have v5 := rg64 hrv (k := 5) (by show 5 < 8; decide)
     have v6 := rg64 hrv (k := 6) (by show 6 < 8; decide)
     have v7 := rg64 hrv (k := 7) (by show 7 < 8; decide)
     have hh17 : (fun w' : World => Row w' w.heap.size 130 (KdL64 A B) ∧ w'.cell? ⟨p, 0, none⟩ = some (.int .u64 ((s0 : Nat) : Int)) ∧ w'.cell? ⟨p, 1, none⟩ = some (.int .u64 ((s1 : Nat) : Int)) ∧ w'.cell? ⟨p, 2, none⟩ = some (.int .u64 ((s2 : Nat) : Int)) ∧ w'.cell? ⟨p, 3, none⟩ = some (.int .u64 ((s3 : Nat) : Int)) ∧ w'.cell? ⟨p, 4, none⟩ = some (.int .u64 ((s4 : Nat) : Int)) ∧ w'.cell? ⟨p, 5, none⟩ = some (.int .u64 ((s5 : Nat) : Int)) ∧ w'.cell? ⟨p, 6, none⟩ = some (.int .u64 ((s6 : Nat) : Int)) ∧ w'.cell? ⟨p, 7, none⟩ = some (.int .u64 ((s7 : Nat) : Int)) ∧ w'.cell? ⟨B, k, none⟩ = some (.int .u64 ((rk : Nat) : Int)) ∧ w'.cell? ⟨gw, k, none⟩ = some (.int .u64 ((xk : Nat) : Int))) wr.drew := ⟨hrow.drewN 1, v0, v1, v2, v3, v4, v5, v6, v7, cR, cX⟩
     have KI := yH kdInfo64
     have TI := yH t3Info64
     have HH17 := yH hh17
     have HSUC := yH hsuc
     have HROW := yH hrow
     have HRW := yH hrw
     have HGL := yH hgl
     have HBE := yH hbe
     have ch1 := rch64 h4 h5 h6
     have mj1 := rmaj64 h0 h1 h2
     have bi : (k : Int) < 80 := by omega
     have b0 : (0 : Int) ≤ (k : Int) := by omega
     have CH1 := yH ch1
     have MJ1 := yH mj1
     clear hh17 hsuc hrow hrw hgl hbe hrv hpl v0 v1 v2 v3 v4 v5 v6 v7 cR cX ch1 mj1
     go_upto_region 17 with fail
     clear c2
     refine wp_region_any (by kernel_rfl) ?_
     change wpAny _ _ _ _ _ _ _ (World.drew _)
     refine wpAny_of_held (S := (fun w' : World => Row w' w.heap.size 130 (KdL64 A B) ∧ w'.cell? ⟨p, 0, none⟩ = some (.int .u64 ((s0 : Nat) : Int)) ∧ w'.cell? ⟨p, 1, none⟩ = some (.int .u64 ((s1 : Nat) : Int)) ∧ w'.cell? ⟨p, 2, none⟩ = some (.int .u64 ((s2 : Nat) : Int)) ∧ w'.cell? ⟨p, 3, none⟩ = some (.int .u64 ((s3 : Nat) : Int)) ∧ w'.cell? ⟨p, 4, none⟩ = some (.int .u64 ((s4 : Nat) : Int)) ∧ w'.cell? ⟨p, 5, none⟩ = some (.int .u64 ((s5 : Nat) : Int)) ∧ w'.cell? ⟨p, 6, none⟩ = some (.int .u64 ((s6 : Nat) : Int)) ∧ w'.cell? ⟨p, 7, none⟩ = some (.int .u64 ((s7 : Nat) : Int)) ∧ w'.cell? ⟨B, k, none⟩ = some (.int .u64 ((rk : Nat) : Int)) ∧ w'.cell? ⟨gw, k, none⟩ = some (.int .u64 ((xk : Nat) : Int)))) _ _ _ _ ?_
     have hHeld := HH17.out
     have hl : Ls [(0, 95), (1, 96), (4, 99), (5, 100), (7, 102), (11, 106), (12, 107), (14, 109), (15, 110), (18, 113), (20, 115), (21, 116), (24, 119), (25, 120), (30, 125), (32, 127), (36, 131), (37, 132)] := trivial
     repeat
      refine tkl hl (v := ?_) rfl rfl (by kernel_rfl) (fun _ _ _ h => h) (by rfl) ?_ hHeld ?_
      rotate_left
      ·(intro w' hSw; go_simp; try (with_reducible rfl))
      simp only [Act.put, yA, yB, yC]
      replace hl := hl.tl
     clear hl
     refine wpAnyH_take (i := 3) (v := .agg (KdL64 A B).toArray) rfl (by kernel_rfl) (by kernel_rfl) (by kernel_rfl) (fun _ _ _ h => h) (yieldsIf_load_mid (by rfl) 130 (.tmp 3) rfl w.heap.size 0 rfl (KdL64 A B) _ (fun w' hSw => hSw.1.range) (by rfl) rfl KI.out) hHeld ?_
     change wpAnyH _ _ _ _ _ _ _ (Act.put _ (some 98) _) _
     simp only [Act.put, yA, yB, yC]
     refine wpAnyH_take (i := 8) (v := .agg ([.int .i64 14, .int .i64 18, .int .i64 41]).toArray) rfl (by kernel_rfl) (by kernel_rfl) (by kernel_rfl) (fun _ _ _ h => h) (yieldsIf_load_mid (by rfl) 128 (.tmp 102) rfl w.heap.size 6 rfl ([.int .i64 14, .int .i64 18, .int .i64 41]) _ (fun w' hSw => rowmid64 hSw.1 6 rfl) (by rfl) rfl TI.out) hHeld ?_
     change wpAnyH _ _ _ _ _ _ _ (Act.put _ (some 103) _) _
     simp only [Act.put, yA, yB, yC]
     refine tk 2 97 (v := ?_) rfl rfl (by kernel_rfl) (fun _ _ _ h => h) (by rfl) ?_ hHeld ?_
     rotate_left
     ·(intro w' hSw; have c0 := hSw.2.2.2.2.2.2.2.2.1; go_simp; try (with_reducible rfl))
     simp only [Act.put, yA, yB, yC]
     refine tk 6 101 (v := ?_) rfl rfl (by kernel_rfl) (fun _ _ _ h => h) (by rfl) ?_ hHeld ?_
     rotate_left
     ·(intro w' hSw; have c0 := hSw.2.2.2.2.2.1; go_simp; try (with_reducible rfl))
     simp only [Act.put, yA, yB, yC]
     refine tk 13 108 (v := ?_) rfl rfl (by kernel_rfl) (fun _ _ _ h => h) (by rfl) ?_ hHeld ?_
     rotate_left
     ·(intro w' hSw; have c0 := hSw.2.2.2.2.2.1; go_simp; try (with_reducible rfl))
     simp only [Act.put, yA, yB, yC]
     refine tk 16 111 (v := ?_) rfl rfl (by kernel_rfl) (fun _ _ _ h => h) (by rfl) ?_ hHeld ?_
     rotate_left
     ·(intro w' hSw; have c0 := hSw.2.2.2.2.2.2.1; go_simp; try (with_reducible rfl))
     simp only [Act.put, yA, yB, yC]
     refine tk 19 114 (v := ?_) rfl rfl (by kernel_rfl) (fun _ _ _ h => h) (by rfl) ?_ hHeld ?_
     rotate_left
     ·(intro w' hSw; have c0 := hSw.1.cell (k := 16) rfl; go_simp; try (with_reducible rfl))
     simp only [Act.put, yA, yB, yC]
     refine tk 22 117 (v := ?_) rfl rfl (by kernel_rfl) (fun _ _ _ h => h) (by rfl) ?_ hHeld ?_
     rotate_left
     ·(intro w' hSw; have c0 := hSw.2.2.2.2.2.1; go_simp; try (with_reducible rfl))
     simp only [Act.put, yA, yB, yC]
     refine tk 26 121 (v := ?_) rfl rfl (by kernel_rfl) (fun _ _ _ h => h) (by rfl) ?_ hHeld ?_
     rotate_left
     ·(intro w' hSw; have c0 := hSw.2.2.2.2.2.2.2.1; go_simp; try (with_reducible rfl))
     simp only [Act.put, yA, yB, yC]
     refine tk 31 126 (v := ?_) rfl rfl (by kernel_rfl) (fun _ _ _ h => h) (by rfl) ?_ hHeld ?_
     rotate_left
     ·(intro w' hSw; have c0 := hSw.1.cell (k := 2) rfl; go_simp; try (with_reducible rfl))
     simp only [Act.put, yA, yB, yC]
     have hl : Ls [(33, 128), (38, 133)] := trivial
     repeat
      refine tkl hl (v := ?_) rfl rfl (by kernel_rfl) (fun _ _ _ h => h) (by rfl) ?_ hHeld ?_
      rotate_left
      ·(intro w' hSw; go_simp; try (with_reducible rfl))
      simp only [Act.put, yA, yB, yC]
      replace hl := hl.tl
     clear hl
     refine tk 34 129 (v := ?_) rfl rfl (by kernel_rfl) (fun _ _ _ h => h) (by rfl) ?_ hHeld ?_
     rotate_left
     ·(intro w' hSw; have c0 := hSw.2.2.2.2.2.2.2.2.2.1; go_simp; try (with_reducible rfl))
     simp only [Act.put, yA, yB, yC]
     refine tk 39 134 (v := ?_) rfl rfl (by kernel_rfl) (fun _ _ _ h => h) (by rfl) ?_ hHeld ?_
     rotate_left
     ·(intro w' hSw; have c0 := hSw.2.2.2.2.2.2.2.2.2.2; go_simp; try (with_reducible rfl))
     simp only [Act.put, yA, yB, yC]
     have hl : Ls [(17, 112), (23, 118), (27, 122), (28, 123)] := trivial
     repeat
      refine tkl hl (v := ?_) rfl rfl (by kernel_rfl) (fun _ _ _ h => h) (by rfl) ?_ hHeld ?_
      rotate_left
      ·(intro w' hSw; go_simp; try (with_reducible rfl))
      simp only [Act.put, yA, yB, yC]
      replace hl := hl.tl
     clear hl
     refine wpAnyH_ready (rs := [9]) (by kernel_rfl) (by simp) ?_
     refine AllReadyH.cons rfl (fun K hK => ?_) AllReadyH.nil
     rw [if_pos (by kernel_rfl)]
     go_simp
     refine (rbig64 A B s4 14 18 41 _ h4 (by decide) (by decide) (by decide) (by decide) (by decide) (by decide)).mono ?_
     rintro e w3 ⟨rfl, hb3⟩
     have hbl := (Below.lt_of64 hb3 hHeld.2.1)
     refine hK.out _ _ ⟨hHeld.1.belowAll hb3, hbl _ _ hHeld.2.1, hbl _ _ hHeld.2.2.1, hbl _ _ hHeld.2.2.2.1, hbl _ _ hHeld.2.2.2.2.1, hbl _ _ hHeld.2.2.2.2.2.1, hbl _ _ hHeld.2.2.2.2.2.2.1, hbl _ _ hHeld.2.2.2.2.2.2.2.1, hbl _ _ hHeld.2.2.2.2.2.2.2.2.1, hbl _ _ hHeld.2.2.2.2.2.2.2.2.2.1, hbl _ _ hHeld.2.2.2.2.2.2.2.2.2.2⟩ (fun hHeld => ?_)
     clear hK K
     have HBB3 := yH hb3
     clear hb3 hbl
     have hl : Ls [(10, 105), (29, 124), (35, 130), (40, 135)] := trivial
     repeat
      refine tkl hl (v := ?_) rfl rfl (by kernel_rfl) (fun _ _ _ h => h) (by rfl) ?_ hHeld ?_
      rotate_left
      ·(intro w' hSw; go_simp; try (with_reducible rfl))
      simp only [Act.put, yA, yB, yC]
      replace hl := hl.tl
     clear hl
     refine wpAnyH_ready (rs := [41]) (by kernel_rfl) (by simp) ?_
     refine AllReadyH.cons rfl (fun K hK => ?_) AllReadyH.nil
     rw [if_pos (by kernel_rfl)]
     go_simp
     refine hK.out _ _ hHeld (fun hHeld => ?_)
     clear hK K
     refine wpAnyH_done (by kernel_rfl) ?_ _
     go_upto_region 18 with fail
     rw [CH1.out, rts64]
     generalize htt : rt64 s7 (big3 64 s4 14 18 41) (ch64 s4 s5 s6) rk xk = tt at *
     have HTT := yH htt
     clear htt
     have hl3 := Below.lt_of64 HBB3.out HH17.out.2.1
     have hh18 : (fun w' : World => Row w' w.heap.size 130 (KdL64 A B) ∧ w'.cell? ⟨p, 0, none⟩ = some (.int .u64 ((s0 : Nat) : Int)) ∧ w'.cell? ⟨p, 1, none⟩ = some (.int .u64 ((s1 : Nat) : Int)) ∧ w'.cell? ⟨p, 2, none⟩ = some (.int .u64 ((s2 : Nat) : Int)) ∧ w'.cell? ⟨p, 3, none⟩ = some (.int .u64 ((s3 : Nat) : Int)) ∧ w'.cell? ⟨p, 4, none⟩ = some (.int .u64 ((s4 : Nat) : Int)) ∧ w'.cell? ⟨p, 5, none⟩ = some (.int .u64 ((s5 : Nat) : Int)) ∧ w'.cell? ⟨p, 6, none⟩ = some (.int .u64 ((s6 : Nat) : Int)) ∧ w'.cell? ⟨p, 7, none⟩ = some (.int .u64 ((s7 : Nat) : Int))) w3.drew := ⟨(HH17.out.1.belowAll HBB3.out).drewN 1, hl3 _ _ HH17.out.2.1, hl3 _ _ HH17.out.2.2.1, hl3 _ _ HH17.out.2.2.2.1, hl3 _ _ HH17.out.2.2.2.2.1, hl3 _ _ HH17.out.2.2.2.2.2.1, hl3 _ _ HH17.out.2.2.2.2.2.2.1, hl3 _ _ HH17.out.2.2.2.2.2.2.2.1, hl3 _ _ HH17.out.2.2.2.2.2.2.2.2.1⟩
     have hb3 : Below wr.heap.size wr w3 := ((Below.refl wr.heap.size wr).drew).trans HBB3.out
     have HH18 := yH hh18
     have HB3 := yH hb3
     clear hl3 hh18 hb3 HBB3
     refine wp_region_any (by kernel_rfl) ?_
     change wpAny _ _ _ _ _ _ _ (World.drew _)
     refine wpAny_of_held (S := (fun w' : World => Row w' w.heap.size 130 (KdL64 A B) ∧ w'.cell? ⟨p, 0, none⟩ = some (.int .u64 ((s0 : Nat) : Int)) ∧ w'.cell? ⟨p, 1, none⟩ = some (.int .u64 ((s1 : Nat) : Int)) ∧ w'.cell? ⟨p, 2, none⟩ = some (.int .u64 ((s2 : Nat) : Int)) ∧ w'.cell? ⟨p, 3, none⟩ = some (.int .u64 ((s3 : Nat) : Int)) ∧ w'.cell? ⟨p, 4, none⟩ = some (.int .u64 ((s4 : Nat) : Int)) ∧ w'.cell? ⟨p, 5, none⟩ = some (.int .u64 ((s5 : Nat) : Int)) ∧ w'.cell? ⟨p, 6, none⟩ = some (.int .u64 ((s6 : Nat) : Int)) ∧ w'.cell? ⟨p, 7, none⟩ = some (.int .u64 ((s7 : Nat) : Int)))) _ _ _ _ ?_
     have hHeld := HH18.out
     have hl : Ls [(1, 137), (2, 138), (4, 140), (7, 143), (8, 144), (10, 146), (11, 147), (14, 150), (15, 151), (17, 153), (18, 154), (22, 158), (23, 159), (25, 161), (26, 162)] := trivial
     repeat
      refine tkl hl (v := ?_) rfl rfl (by kernel_rfl) (fun _ _ _ h => h) (by rfl) ?_ hHeld ?_
      rotate_left
      ·(intro w' hSw; go_simp; try (with_reducible rfl))
      simp only [Act.put, yA, yB, yC]
      replace hl := hl.tl
     clear hl
     refine wpAnyH_take (i := 0) (v := .agg (KdL64 A B).toArray) rfl (by kernel_rfl) (by kernel_rfl) (by kernel_rfl) (fun _ _ _ h => h) (yieldsIf_load_mid (by rfl) 130 (.tmp 3) rfl w.heap.size 0 rfl (KdL64 A B) _ (fun w' hSw => hSw.1.range) (by rfl) rfl KI.out) hHeld ?_
     change wpAnyH _ _ _ _ _ _ _ (Act.put _ (some 136) _) _
     simp only [Act.put, yA, yB, yC]
     refine wpAnyH_take (i := 5) (v := .agg ([.int .i64 28, .int .i64 34, .int .i64 39]).toArray) rfl (by kernel_rfl) (by kernel_rfl) (by kernel_rfl) (fun _ _ _ h => h) (yieldsIf_load_mid (by rfl) 128 (.tmp 140) rfl w.heap.size 3 rfl ([.int .i64 28, .int .i64 34, .int .i64 39]) _ (fun w' hSw => rowmid64 hSw.1 3 rfl) (by rfl) rfl TI.out) hHeld ?_
     change wpAnyH _ _ _ _ _ _ _ (Act.put _ (some 141) _) _
     simp only [Act.put, yA, yB, yC]
     refine tk 3 139 (v := ?_) rfl rfl (by kernel_rfl) (fun _ _ _ h => h) (by rfl) ?_ hHeld ?_
     rotate_left
     ·(intro w' hSw; have c0 := hSw.2.1; go_simp; try (with_reducible rfl))
     simp only [Act.put, yA, yB, yC]
     refine tk 9 145 (v := ?_) rfl rfl (by kernel_rfl) (fun _ _ _ h => h) (by rfl) ?_ hHeld ?_
     rotate_left
     ·(intro w' hSw; have c0 := hSw.2.1; go_simp; try (with_reducible rfl))
     simp only [Act.put, yA, yB, yC]
     refine tk 12 148 (v := ?_) rfl rfl (by kernel_rfl) (fun _ _ _ h => h) (by rfl) ?_ hHeld ?_
     rotate_left
     ·(intro w' hSw; have c0 := hSw.2.2.1; go_simp; try (with_reducible rfl))
     simp only [Act.put, yA, yB, yC]
     refine tk 16 152 (v := ?_) rfl rfl (by kernel_rfl) (fun _ _ _ h => h) (by rfl) ?_ hHeld ?_
     rotate_left
     ·(intro w' hSw; have c0 := hSw.2.1; go_simp; try (with_reducible rfl))
     simp only [Act.put, yA, yB, yC]
     refine tk 19 155 (v := ?_) rfl rfl (by kernel_rfl) (fun _ _ _ h => h) (by rfl) ?_ hHeld ?_
     rotate_left
     ·(intro w' hSw; have c0 := hSw.2.2.2.1; go_simp; try (with_reducible rfl))
     simp only [Act.put, yA, yB, yC]
     refine tk 24 160 (v := ?_) rfl rfl (by kernel_rfl) (fun _ _ _ h => h) (by rfl) ?_ hHeld ?_
     rotate_left
     ·(intro w' hSw; have c0 := hSw.2.2.1; go_simp; try (with_reducible rfl))
     simp only [Act.put, yA, yB, yC]
     refine tk 27 163 (v := ?_) rfl rfl (by kernel_rfl) (fun _ _ _ h => h) (by rfl) ?_ hHeld ?_
     rotate_left
     ·(intro w' hSw; have c0 := hSw.2.2.2.1; go_simp; try (with_reducible rfl))
     simp only [Act.put, yA, yB, yC]
     have hl : Ls [(13, 149), (20, 156), (21, 157), (28, 164), (29, 165)] := trivial
     repeat
      refine tkl hl (v := ?_) rfl rfl (by kernel_rfl) (fun _ _ _ h => h) (by rfl) ?_ hHeld ?_
      rotate_left
      ·(intro w' hSw; go_simp; try (with_reducible rfl))
      simp only [Act.put, yA, yB, yC]
      replace hl := hl.tl
     clear hl
     refine wpAnyH_ready (rs := [6]) (by kernel_rfl) (by simp) ?_
     refine AllReadyH.cons rfl (fun K hK => ?_) AllReadyH.nil
     rw [if_pos (by kernel_rfl)]
     go_simp
     refine (rbig64 A B s0 28 34 39 _ h0 (by decide) (by decide) (by decide) (by decide) (by decide) (by decide)).mono ?_
     rintro e w4 ⟨rfl, hb4⟩
     have hbl := (Below.lt_of64 hb4 hHeld.2.1)
     refine hK.out _ _ ⟨hHeld.1.belowAll hb4, hbl _ _ hHeld.2.1, hbl _ _ hHeld.2.2.1, hbl _ _ hHeld.2.2.2.1, hbl _ _ hHeld.2.2.2.2.1, hbl _ _ hHeld.2.2.2.2.2.1, hbl _ _ hHeld.2.2.2.2.2.2.1, hbl _ _ hHeld.2.2.2.2.2.2.2.1, hbl _ _ hHeld.2.2.2.2.2.2.2.2⟩ (fun hHeld => ?_)
     clear hK K
     have HBB4 := yH hb4
     clear hb4 hbl
     refine tk 30 166 (v := ?_) rfl rfl (by kernel_rfl) (fun _ _ _ h => h) (by rfl) ?_ hHeld ?_
     rotate_left
     ·(intro w' hSw; go_simp; try (with_reducible rfl))
     simp only [Act.put, yA, yB, yC]
     refine wpAnyH_ready (rs := [31]) (by kernel_rfl) (by simp) ?_
     refine AllReadyH.cons rfl (fun K hK => ?_) AllReadyH.nil
     rw [if_pos (by kernel_rfl)]
     go_simp
     refine hK.out _ _ hHeld (fun hHeld => ?_)
     clear hK K
     refine wpAnyH_done (by kernel_rfl) ?_ _
     go_upto_region 19 with fail
     rw [MJ1.out, rus64]
     generalize huu : ru64 (big3 64 s0 28 34 39) (maj64 s0 s1 s2) = uu at *
     have HUU := yH huu
     clear huu
     have hl4 := Below.lt_of64 HBB4.out HH18.out.2.1
     have hh19 : (fun w' : World => Row w' w.heap.size 130 (KdL64 A B) ∧ w'.cell? ⟨p, 0, none⟩ = some (.int .u64 ((s0 : Nat) : Int)) ∧ w'.cell? ⟨p, 1, none⟩ = some (.int .u64 ((s1 : Nat) : Int)) ∧ w'.cell? ⟨p, 2, none⟩ = some (.int .u64 ((s2 : Nat) : Int)) ∧ w'.cell? ⟨p, 3, none⟩ = some (.int .u64 ((s3 : Nat) : Int)) ∧ w'.cell? ⟨p, 4, none⟩ = some (.int .u64 ((s4 : Nat) : Int)) ∧ w'.cell? ⟨p, 5, none⟩ = some (.int .u64 ((s5 : Nat) : Int)) ∧ w'.cell? ⟨p, 6, none⟩ = some (.int .u64 ((s6 : Nat) : Int)) ∧ w'.cell? ⟨p, 7, none⟩ = some (.int .u64 ((s7 : Nat) : Int))) w4.drew := ⟨(HH18.out.1.belowAll HBB4.out).drewN 1, hl4 _ _ HH18.out.2.1, hl4 _ _ HH18.out.2.2.1, hl4 _ _ HH18.out.2.2.2.1, hl4 _ _ HH18.out.2.2.2.2.1, hl4 _ _ HH18.out.2.2.2.2.2.1, hl4 _ _ HH18.out.2.2.2.2.2.2.1, hl4 _ _ HH18.out.2.2.2.2.2.2.2.1, hl4 _ _ HH18.out.2.2.2.2.2.2.2.2⟩
     have hb4 : Below wr.heap.size wr w4 := HB3.out.trans ((((Below.refl w3.heap.size w3).drew).trans HBB4.out).mono HB3.out.size)
     have hrow5 : Row w4 w.heap.size 130 (KdL64 A B) := HH18.out.1.belowAll HBB4.out
     have hc5 : w4.cell? ⟨p, 0, none⟩ = some (.int .u64 ((s0 : Nat) : Int)) := hl4 _ _ HH18.out.2.1
     have HH19 := yH hh19
     have HB4 := yH hb4
     have HROW5 := yH hrow5
     have HC5 := yH hc5
     clear hl4 hh19 hb4 hrow5 hc5 HBB4
     refine wp_region_any (by kernel_rfl) ?_
     change wpAny _ _ _ _ _ _ _ (World.drew _)
     refine wpAny_of_held (S := (fun w' : World => Row w' w.heap.size 130 (KdL64 A B) ∧ w'.cell? ⟨p, 0, none⟩ = some (.int .u64 ((s0 : Nat) : Int)) ∧ w'.cell? ⟨p, 1, none⟩ = some (.int .u64 ((s1 : Nat) : Int)) ∧ w'.cell? ⟨p, 2, none⟩ = some (.int .u64 ((s2 : Nat) : Int)) ∧ w'.cell? ⟨p, 3, none⟩ = some (.int .u64 ((s3 : Nat) : Int)) ∧ w'.cell? ⟨p, 4, none⟩ = some (.int .u64 ((s4 : Nat) : Int)) ∧ w'.cell? ⟨p, 5, none⟩ = some (.int .u64 ((s5 : Nat) : Int)) ∧ w'.cell? ⟨p, 6, none⟩ = some (.int .u64 ((s6 : Nat) : Int)) ∧ w'.cell? ⟨p, 7, none⟩ = some (.int .u64 ((s7 : Nat) : Int)))) _ _ _ _ ?_
     have hHeld := HH19.out
     have hl : Ls [(0, 167), (1, 168), (2, 169), (3, 170), (6, 173), (7, 174), (9, 176), (10, 177), (12, 179), (13, 180), (15, 182), (16, 183), (18, 185), (20, 187), (23, 190), (24, 191), (26, 193), (27, 194), (29, 196), (30, 197)] := trivial
     repeat
      refine tkl hl (v := ?_) rfl rfl (by kernel_rfl) (fun _ _ _ h => h) (by rfl) ?_ hHeld ?_
      rotate_left
      ·(intro w' hSw; go_simp; try (with_reducible rfl))
      simp only [Act.put, yA, yB, yC]
      replace hl := hl.tl
     clear hl
     refine tk 4 171 (v := ?_) rfl rfl (by kernel_rfl) (fun _ _ _ h => h) (by rfl) ?_ hHeld ?_
     rotate_left
     ·(intro w' hSw; have c0 := hSw.1.cell (k := 16) rfl; go_simp; try (with_reducible rfl))
     simp only [Act.put, yA, yB, yC]
     refine tk 8 175 (v := ?_) rfl rfl (by kernel_rfl) (fun _ _ _ h => h) (by rfl) ?_ hHeld ?_
     rotate_left
     ·(intro w' hSw; have c0 := hSw.2.1; go_simp; try (with_reducible rfl))
     simp only [Act.put, yA, yB, yC]
     refine tk 11 178 (v := ?_) rfl rfl (by kernel_rfl) (fun _ _ _ h => h) (by rfl) ?_ hHeld ?_
     rotate_left
     ·(intro w' hSw; have c0 := hSw.2.2.1; go_simp; try (with_reducible rfl))
     simp only [Act.put, yA, yB, yC]
     refine tk 14 181 (v := ?_) rfl rfl (by kernel_rfl) (fun _ _ _ h => h) (by rfl) ?_ hHeld ?_
     rotate_left
     ·(intro w' hSw; have c0 := hSw.2.2.2.1; go_simp; try (with_reducible rfl))
     simp only [Act.put, yA, yB, yC]
     refine tk 17 184 (v := ?_) rfl rfl (by kernel_rfl) (fun _ _ _ h => h) (by rfl) ?_ hHeld ?_
     rotate_left
     ·(intro w' hSw; have c0 := hSw.2.2.2.2.1; go_simp; try (with_reducible rfl))
     simp only [Act.put, yA, yB, yC]
     refine tk 21 188 (v := ?_) rfl rfl (by kernel_rfl) (fun _ _ _ h => h) (by rfl) ?_ hHeld ?_
     rotate_left
     ·(intro w' hSw; have c0 := hSw.1.cell (k := 16) rfl; go_simp; try (with_reducible rfl))
     simp only [Act.put, yA, yB, yC]
     refine tk 25 192 (v := ?_) rfl rfl (by kernel_rfl) (fun _ _ _ h => h) (by rfl) ?_ hHeld ?_
     rotate_left
     ·(intro w' hSw; have c0 := hSw.2.2.2.2.2.1; go_simp; try (with_reducible rfl))
     simp only [Act.put, yA, yB, yC]
     refine tk 28 195 (v := ?_) rfl rfl (by kernel_rfl) (fun _ _ _ h => h) (by rfl) ?_ hHeld ?_
     rotate_left
     ·(intro w' hSw; have c0 := hSw.2.2.2.2.2.2.1; go_simp; try (with_reducible rfl))
     simp only [Act.put, yA, yB, yC]
     refine tk 31 198 (v := ?_) rfl rfl (by kernel_rfl) (fun _ _ _ h => h) (by rfl) ?_ hHeld ?_
     rotate_left
     ·(intro w' hSw; have c0 := hSw.2.2.2.2.2.2.2.1; go_simp; try (with_reducible rfl))
     simp only [Act.put, yA, yB, yC]
     have hl : Ls [(5, 172), (19, 186), (22, 189)] := trivial
     repeat
      refine tkl hl (v := ?_) rfl rfl (by kernel_rfl) (fun _ _ _ h => h) (by rfl) ?_ hHeld ?_
      rotate_left
      ·(intro w' hSw; go_simp; try (with_reducible rfl))
      simp only [Act.put, yA, yB, yC]
      replace hl := hl.tl
     clear hl
     refine wpAnyH_ready (rs := [32]) (by kernel_rfl) (by simp) ?_
     refine AllReadyH.cons rfl (fun K hK => ?_) AllReadyH.nil
     rw [if_pos (by kernel_rfl)]
     go_simp
     have hbl := fun (X : Obj) => (Below.lt_of64 ((Below.refl w4.heap.size w4).alloc (Nat.le_refl _) X) (HC5.out))
     refine hK.out _ _ ⟨?_, ?_⟩ (fun hHeld => ?_)
     ·exact (HROW5.out.alloc _).drewN 1
     ·exact ⟨hbl _ _ _ HH19.out.2.1, hbl _ _ _ HH19.out.2.2.1, hbl _ _ _ HH19.out.2.2.2.1, hbl _ _ _ HH19.out.2.2.2.2.1, hbl _ _ _ HH19.out.2.2.2.2.2.1, hbl _ _ _ HH19.out.2.2.2.2.2.2.1, hbl _ _ _ HH19.out.2.2.2.2.2.2.2.1, hbl _ _ _ HH19.out.2.2.2.2.2.2.2.2⟩
     clear hK K hbl
     refine wpAnyH_ready (rs := [33]) (by kernel_rfl) (by simp) ?_
     refine AllReadyH.cons rfl (fun K hK => ?_) AllReadyH.nil
     rw [if_pos (by kernel_rfl)]
     go_simp
     refine hK.out _ _ hHeld (fun hHeld => ?_)
     clear hK K
     refine wpAnyH_done (by kernel_rfl) ?_ _
     go_wp2_with fail
     go_roundw
     case rel =>
      rw [cut64, cut64]
      refine ⟨k + 1, w4.heap.size, 8, by omega, by go_num, rfl, ?_, by simp, (HROW5.out.alloc _).drewN 1, ?_, ?_, ?_⟩
      ·rw [HSUC.out]
       exact (Row.new w4 (Vs64 (S8x64.list ⟨(tt + uu) % 18446744073709551616, s0, s1, s2, (s3 + tt) % 18446744073709551616, s4, s5, s6⟩)) 59).range
      ·exact range64_below (w' := (w4.alloc _).drew) (range64_below HRW.out HB4.out HGL.out) (((Below.refl _ _).alloc (Nat.le_refl _) _).drew) (Nat.lt_of_lt_of_le HGL.out HB4.out.size)
      ·have := HB4.out.size
       have := HGL.out
       simp
       omega
      ·exact HBE.out.trans (((HB4.out.alloc HB4.out.size _).drew).mono HBE.out.size)
     case measure => simp [intOf]; omega
    ·obtain rfl : k = 80 := by omega
     rw [rst64_eq s (wds64_len ms)] at hrv
     clear hok hsuc
     obtain ⟨wo, rfl⟩ : ∃ wo : World, wo = wr := ⟨_, rfl⟩
     have hh3 : wo.rangeAt ph 0 (Vs64 s.list) := range64_below HH.out hbe HHL.out
     have hhl3 : ph < wo.heap.size := Nat.lt_of_lt_of_le HHL.out hbe.size
     have HRV3 := yH hrv
     have HPL3 := yH hpl
     have HROW3 := yH hrow
     have HBE3 := yH hbe
     have HH3 := yH hh3
     have HHL3 := yH hhl3
     clear hrv hpl hrow hrw hgl hbe hh3 hhl3
     go_wp2_with fail
     clear c2
     go_loopw [15, 16] (fun v i wx => ∃ j : Nat, j ≤ 8 ∧ i = .int .i64 j ∧ wx.ownsRow wo.heap.size 59 1 v j (Vs64 ((mxs64 s (wds64 ms)).list.take j)) ∧ Below wo.heap.size wo wx) (fun _ i _ => 8 - (intOf i).toNat)
     case atStart => exact ⟨0, by decide, rfl, World.ownsRow_nil _ _ _ _, Below.refl _ _⟩
     case round =>
      obtain ⟨j, hj, rfl, hown, hbx⟩ := hrel
      obtain ⟨Av, cv2, rfl⟩ := own_slice hown
      by_cases hlt : j < 8
      ·have hget := mxget64 s (wds64 ms) hlt
       have hmt : (mxs64 s (wds64 ms)).list.take (j + 1) = (mxs64 s (wds64 ms)).list.take j ++ [(mxs64 s (wds64 ms)).list.getD j 0] := by
        have hl : j < (mxs64 s (wds64 ms)).list.length := hlt
        rw [List.take_add_one, List.getD, List.getElem?_eq_getElem hl]
        rfl
       rw [hget] at hmt
       have cp := rg64 (range64_below HRV3.out hbx HPL3.out) (k := j) hlt
       have cq := rg64 (range64_below HH3.out hbx HHL3.out) (k := j) hlt
       have hrow := HROW3.out.belowAll hbx
       generalize s.list.getD j 0 = y1 at *
       generalize (gone64 s (wds64 ms) 80).list.getD j 0 = y2 at *
       have hh24 : (fun w' : World => Row w' w.heap.size 130 (KdL64 A B) ∧ w'.cell? ⟨p, j, none⟩ = some (.int .u64 ((y2 : Nat) : Int)) ∧ w'.cell? ⟨ph, j, none⟩ = some (.int .u64 ((y1 : Nat) : Int))) wr.drew := ⟨hrow.drewN 1, cp, cq⟩
       have bj : (j : Int) < 8 := by omega
       have bj0 : (0 : Int) ≤ (j : Int) := by omega
       have HH24 := yH hh24
       have HMT := yH hmt
       have HOWN4 := yH hown
       have HBX := yH hbx
       clear hh24 hget hmt cp cq hown hbx hrow
       go_upto_region 24 with fail
       refine wp_region_any (by kernel_rfl) ?_
       change wpAny _ _ _ _ _ _ _ (World.drew _)
       refine wpAny_of_held (S := (fun w' : World => Row w' w.heap.size 130 (KdL64 A B) ∧ w'.cell? ⟨p, j, none⟩ = some (.int .u64 ((y2 : Nat) : Int)) ∧ w'.cell? ⟨ph, j, none⟩ = some (.int .u64 ((y1 : Nat) : Int)))) _ _ _ _ ?_
       have hHeld := HH24.out
       have hl : Ls [(0, 204), (1, 205), (2, 206), (3, 207), (5, 209), (6, 210), (7, 211), (10, 214)] := trivial
       repeat
        refine tkl hl (v := ?_) rfl rfl (by kernel_rfl) (fun _ _ _ h => h) (by rfl) ?_ hHeld ?_
        rotate_left
        ·(intro w' hSw; go_simp; try (with_reducible rfl))
        simp only [Act.put, yA, yB, yC]
        replace hl := hl.tl
       clear hl
       refine tk 4 208 (v := ?_) rfl rfl (by kernel_rfl) (fun _ _ _ h => h) (by rfl) ?_ hHeld ?_
       rotate_left
       ·(intro w' hSw; have c0 := hSw.2.2; go_simp; try (with_reducible rfl))
       simp only [Act.put, yA, yB, yC]
       refine tk 8 212 (v := ?_) rfl rfl (by kernel_rfl) (fun _ _ _ h => h) (by rfl) ?_ hHeld ?_
       rotate_left
       ·(intro w' hSw; have c0 := hSw.2.1; go_simp; try (with_reducible rfl))
       simp only [Act.put, yA, yB, yC]
       refine tk 11 215 (v := ?_) rfl rfl (by kernel_rfl) (fun _ _ _ h => h) (by rfl) ?_ hHeld ?_
       rotate_left
       ·(intro w' hSw; have c0 := hSw.1.cell (k := 16) rfl; go_simp; try (with_reducible rfl))
       simp only [Act.put, yA, yB, yC]
       have hl : Ls [(9, 213), (12, 216)] := trivial
       repeat
        refine tkl hl (v := ?_) rfl rfl (by kernel_rfl) (fun _ _ _ h => h) (by rfl) ?_ hHeld ?_
        rotate_left
        ·(intro w' hSw; go_simp; try (with_reducible rfl))
        simp only [Act.put, yA, yB, yC]
        replace hl := hl.tl
       clear hl
       refine wpAnyH_ready (rs := [13]) (by kernel_rfl) (by simp) ?_
       refine AllReadyH.cons rfl (fun K hK => ?_) AllReadyH.nil
       rw [if_pos (by kernel_rfl)]
       rw [cut64]
       go_simp
       have hbl := fun (X : Obj) => (Below.lt_of64 ((Below.refl wr.heap.size wr).alloc (Nat.le_refl _) X) (HH24.out.2.1))
       refine hK.out _ _ ⟨?_, ?_⟩ (fun hHeld => ?_)
       ·exact (HH24.out.1.alloc _).drewN 0
       ·exact ⟨hbl _ _ _ HH24.out.2.1, hbl _ _ _ HH24.out.2.2⟩
       clear hK K hbl
       refine wpAnyH_ready (rs := [14]) (by kernel_rfl) (by simp) ?_
       refine AllReadyH.cons rfl (fun K hK => ?_) AllReadyH.nil
       rw [if_pos (by kernel_rfl)]
       refine wp_append_rd (.tmp 204) (.tmp 217) 127 rfl wo.heap.size 59 i0 (.int .u64 0) 8 Tryz.underlying127 HI.out HZ0.out HZ1.out HZ2.out rfl (.slice Av j cv2) j (Vs64 ((mxs64 s (wds64 ms)).list.take j)) rfl ((HOWN4.out.alloc _).drew) (fun b => b = wr.heap.size) (some ⟨wr.heap.size, 0, none⟩) 1 1 (Vs64 [(y1 + y2) % 18446744073709551616]) rfl ((Rd.lit wr (Vs64 [(y1 + y2) % 18446744073709551616]) _ _ rfl 1 rfl).keep (Nat.le_refl _) (fun _ _ _ => rfl)) (Vs64_one _) (by unfold maxLen; omega) (by omega) (by have := HBX.out.size; simp; omega) ?_
       intro v' w6 hown6 hg6 _
       have hb6 : Below wo.heap.size wo w6 := ((HBX.out.alloc HBX.out.size _).drew).grown hg6 (by have := HBX.out.size; simp; omega) (fun b hb => (HOWN4.out.lt b hb).1)
       have hc6 : w6.cell? ⟨p, j, none⟩ = some (.int .u64 ((y2 : Nat) : Int)) := (hb6.cell (p := ⟨p, j, none⟩) HPL3.out).trans (((HBX.out.cell (p := ⟨p, j, none⟩) HPL3.out).symm).trans HH24.out.2.1)
       have hd6 : w6.cell? ⟨ph, j, none⟩ = some (.int .u64 ((y1 : Nat) : Int)) := (hb6.cell (p := ⟨ph, j, none⟩) HHL3.out).trans (((HBX.out.cell (p := ⟨ph, j, none⟩) HHL3.out).symm).trans HH24.out.2.2)
       have hr6 := HROW3.out.belowAll hb6
       have HO6 := yH hown6
       have HB6 := yH hb6
       clear hown6 hg6 hb6
       refine hK.out _ _ ⟨hr6, hc6, hd6⟩ (fun hHeld => ?_)
       clear hK K
       clear hc6 hd6 hr6
       refine wpAnyH_ready (rs := [15]) (by kernel_rfl) (by simp) ?_
       refine AllReadyH.cons rfl (fun K hK => ?_) AllReadyH.nil
       rw [if_pos (by kernel_rfl)]
       go_simp
       refine hK.out _ _ hHeld (fun hHeld => ?_)
       clear hK K
       refine wpAnyH_done (by kernel_rfl) ?_ _
       go_wp2_with fail
       go_roundw
       case rel =>
        refine ⟨j + 1, by omega, by go_num, ?_, HB6.out⟩
        rw [HMT.out, Vs64_append]
        exact HO6.out
       case measure => simp [intOf]; omega
      ·obtain rfl : j = 8 := by omega
       have hfin : (mxs64 s (wds64 ms)).list.take 8 = (mxs64 s (wds64 ms)).list := rfl
       rw [hfin] at hown
       have HOWN4 := yH hown
       have HBX := yH hbx
       clear hfin hown hbx
       go_wp2_with fail
       go_ret
       exact ⟨_, rfl, own_base HOWN4.out HBE3.out.size, HBE3.out.trans (HBX.out.mono HBE3.out.size)⟩
end Go.Proofs.YtnpjecdodhkplaaGreatDoor
