/- A block, as the document reckons it. -/
import Derived.Test.YtcdfbcpcgkcojaaDoorBlkA64
namespace Go.Proofs.YtcdfbcpcgkcojaaDoor
set_option maxRecDepth 100000
open Go.RowKit

set_option maxHeartbeats 4000000 in
theorem block64 (A B ph ch pm om cm : Nat) (s : S8x64) (ms : List Nat) (w : World) (ho : s.ok) (hl : ms.length = 128) (hx : ∀ x ∈ ms, x < 256) (hB : Row w B 51 (Vs64 rc64)) (hh : w.rangeAt ph 0 (Vs64 s.list)) (hhl : ph < w.heap.size)
    (hm : w.rangeAt pm om (ms.map fun x => .int .u8 ((x : Nat) : Int))) (hml : pm < w.heap.size) :
    Calls Tryd.prog 35 #[.agg (KdL64 A B).toArray, .slice (some ⟨ph, 0, none⟩) 8 ch, .slice (some ⟨pm, om, none⟩) 128 cm] w fun e w' => ∃ v, e = .returned v ∧ w'.ownsRow w.heap.size 51 1 v 8 (Vs64 (mxs64 s (wds64 ms)).list) ∧ Below w.heap.size w w' := by
  obtain ⟨i0, hi, hz0, hz1, hz2⟩ := info_parts u64_info64
  have hrow0 : Row (w.alloc (.cells (KdL64 A B).toArray 53)) w.heap.size 53 (KdL64 A B) := Row.new _ _ _
  have hb0 : Below w.heap.size w (w.alloc (.cells (KdL64 A B).toArray 53)) := (Below.refl _ _).alloc (Nat.le_refl _) _
  have HI := Lib.hid hi
  have HZ0 := Lib.hid hz0
  have HZ1 := Lib.hid hz1
  have HZ2 := Lib.hid hz2
  have HO := Lib.hid ho
  have HL := Lib.hid hl
  have HX := Lib.hid hx
  have HB := Lib.hid hB
  have HH := Lib.hid hh
  have HHL := Lib.hid hhl
  have HM := Lib.hid hm
  have HML := Lib.hid hml
  have HROW0 := Lib.hid hrow0
  have HB0 := Lib.hid hb0
  clear hi hz0 hz1 hz2 ho hl hx hB hh hhl hm hml hrow0 hb0
  go_enter Tryd.func35, Tryd.ntmps35
  go_wp2_with fail
  go_loopw [7, 8, 9, 10] (fun v i _ _ wr => ∃ n : Nat, n ≤ 80 ∧ i = .int .i64 n ∧ wr.ownsRow (w.heap.size + 1) 51 1 v n (Vs64 ((ful64 (wds64 ms)).take n)) ∧ Row wr w.heap.size 53 (KdL64 A B) ∧ Below w.heap.size w wr) (fun _ i _ _ _ => 80 - (intOf i).toNat)
  case atStart => exact ⟨0, Nat.zero_le _, rfl, World.ownsRow_nil _ _ _ _, HROW0.out, HB0.out⟩
  case round =>
    obtain ⟨n, hn, rfl, hown, hrow, hbe⟩ := hrel
    obtain ⟨Av, cv, rfl⟩ := own_slice hown
    have c0 := hrow.cell (k := 0) rfl
    have c2 := hrow.cell (k := 2) rfl
    by_cases hlt : n < 80
    · by_cases h16 : n < 16
      · have HOWN := Lib.hid hown
        have HROW := Lib.hid hrow
        have HBE := Lib.hid hbe
        clear hown hrow hbe
        go_wp2_with fail
        go_loopw [9, 10] (fun x j wx => ∃ k q : Nat, k ≤ 8 ∧ j = .int .i64 k ∧ x = .int .u64 ((wpt64 ms n k : Nat) : Int) ∧ wx = wr.drewN q) (fun _ j _ => 8 - (intOf j).toNat)
        case atStart => exact ⟨0, 0, Nat.zero_le _, rfl, rfl, rfl⟩
        case round =>
          obtain ⟨k, q, hk, rfl, rfl, rfl⟩ := hrel
          by_cases hlk : k < 8
          · have hw := wpt64_lt HX.out n k
            have hpw : 256 ^ k ≤ 256 ^ 7 := Nat.pow_le_pow_right (by decide) (by omega)
            have hx56 : wpt64 ms n k < 72057594037927936 := by omega
            have hstep : wpt64 ms n (k + 1) = wpt64 ms n k * 256 + ms.getD (n * 8 + k) 0 := rfl
            have hc256 := getD256 HX.out (n * 8 + k)
            have hcell : wr.cell? ⟨pm, om + (n * 8 + k), none⟩ = some (.int .u8 ((ms.getD (n * 8 + k) 0 : Nat) : Int)) := (HBE.out.cell (p := ⟨pm, om + (n * 8 + k), none⟩) HML.out).trans (HM.out _ _ (by rw [List.getElem?_map, List.getD, List.getElem?_eq_getElem (by rw [HL.out]; omega)]; rfl))
            have HSTEP := Lib.hid hstep
            clear hstep hw hpw
            generalize ms.getD (n * 8 + k) 0 = c at *
            generalize wpt64 ms n k = x at *
            have HX56 := Lib.hid hx56
            clear hx56
            have q1 : (n : Int) * 64 / 8 = (n : Int) * 8 := by omega
            go_wp2_with fail
            go_roundw
            case rel => exact ⟨k + 1, q, by omega, by go_num, by rw [HSTEP.out, xorbyte64 x c HX56.out hc256], rfl⟩
            case measure => simp [intOf]; omega
          · obtain rfl : k = 8 := by omega
            have hval : wpt64 ms n 8 = (ful64 (wds64 ms)).getD n 0 := by rw [ful64_lo (wds64_len ms) h16, wds64_get ms h16]
            rw [hval]
            clear hval
            have hown : (wr.drewN q).ownsRow (w.heap.size + 1) 51 1 (.slice Av n cv) n (Vs64 ((ful64 (wds64 ms)).take n)) := HOWN.out
            have hrow := (HROW.out.drewN q)
            have hbe := below_drewN HBE.out q
            have d0 := hrow.cell (k := 0) rfl
            clear c0 c2
            generalize wr.drewN q = wy at *
            have hsz : w.heap.size + 1 ≤ wy.heap.size := by have := hrow.lt; omega
            have hup := ful64_succ (wds64_len ms) hlt
            generalize (ful64 (wds64 ms)).getD n 0 = x at *
            have HOWN2 := Lib.hid hown
            have HROW2 := Lib.hid hrow
            have HBE2 := Lib.hid hbe
            have HSZ := Lib.hid hsz
            have HUP := Lib.hid hup
            clear hown hrow hbe hsz hup
            go_wp2_with (at_builtin; refine wpList_append_rd _ rfl (.tmp 81) (.tmp 83) 49 rfl (w.heap.size + 1) 51 i0 (.int .u64 0) 8 Tryd.underlying49 HI.out HZ0.out HZ1.out HZ2.out rfl (.slice Av n cv) n (Vs64 ((ful64 (wds64 ms)).take n)) rfl (HOWN2.out.alloc _) (fun j => j = wy.heap.size) (some ⟨wy.heap.size, 0, none⟩) 1 1 (Vs64 [x]) rfl (Rd.lit wy (Vs64 [x]) _ _ rfl 1 rfl) (Vs64_one _) (by unfold maxLen; omega) (by omega) (by have := HSZ.out; simp; omega) ?_)
            intro v' w2 hown2 hg2 _
            have hrow2 : Row w2 w.heap.size 53 (KdL64 A B) := ((Below.refl (w.heap.size + 1) wy).alloc HSZ.out _ |>.grown hg2 (by have := HSZ.out; simp; omega) (fun j hj => (HOWN2.out.lt j hj).1) |>.block _ (by omega)).trans HROW2.out
            have hb2 : Below w.heap.size w w2 := (HBE2.out.alloc HBE2.out.size _).grown hg2 (by have := HBE2.out.size; simp; omega) (fun j hj => by have := (HOWN2.out.lt j hj).1; omega)
            rw [← Vs64_append, ← HUP.out] at hown2
            have HO2 := Lib.hid hown2
            have HR2 := Lib.hid hrow2
            have HB2 := Lib.hid hb2
            clear hown2 hg2 hrow2 hb2
            go_wp2_with fail
            go_roundw
            case rel => exact ⟨n + 1, by omega, by go_num, HO2.out, HR2.out, HB2.out⟩
            case measure => simp [intOf]; omega
      · have hgw := hown.form (by omega)
        obtain ⟨gw, cap, hv, hgb, hgl⟩ := hgw
        injection hv with hA _ hC
        subst hA hC
        have hcs := hown.cells (g := gw) rfl
        have hful := ful64_hi (wds64_len ms) (Nat.le_of_not_lt h16) hlt
        have hcell : ∀ k, k < n → wr.cell? ⟨gw, k, none⟩ = some (.int .u64 (((ful64 (wds64 ms)).getD k 0 : Nat) : Int)) := fun k hk => by
          have hk2 : k < (ful64 (wds64 ms)).length := by rw [ful64_len (wds64_len ms)]; omega
          have h := hcs k (.int .u64 (((ful64 (wds64 ms)).getD k 0 : Nat) : Int)) (by rw [Vs64_get, List.getElem?_take, if_pos hk, List.getD, List.getElem?_eq_getElem hk2]; rfl)
          have e : (⟨gw, 0, none⟩ : Addr).add k = ⟨gw, k, none⟩ := by unfold Addr.add; split <;> simp_all
          rwa [e] at h
        have k2 := hcell (n - 2) (by omega)
        have k7 := hcell (n - 7) (by omega)
        have k15 := hcell (n - 15) (by omega)
        have k16 := hcell (n - 16) (by omega)
        have g2 := ful64_at (wds64_lt HX.out) (n - 2)
        have g15 := ful64_at (wds64_lt HX.out) (n - 15)
        generalize (ful64 (wds64 ms)).getD (n - 2) 0 = x2 at *
        generalize (ful64 (wds64 ms)).getD (n - 7) 0 = x7 at *
        generalize (ful64 (wds64 ms)).getD (n - 15) 0 = x15 at *
        generalize (ful64 (wds64 ms)).getD (n - 16) 0 = x16 at *
        have hh0 : (fun w' : World => Row w' w.heap.size 53 (KdL64 A B) ∧ w'.cell? ⟨gw, n - 2, none⟩ = some (.int .u64 ((x2 : Nat) : Int)) ∧ w'.cell? ⟨gw, n - 7, none⟩ = some (.int .u64 ((x7 : Nat) : Int)) ∧ w'.cell? ⟨gw, n - 15, none⟩ = some (.int .u64 ((x15 : Nat) : Int)) ∧ w'.cell? ⟨gw, n - 16, none⟩ = some (.int .u64 ((x16 : Nat) : Int))) wr.drew := ⟨hrow.drewN 1, k2, k7, k15, k16⟩
        have HH0 := Lib.hid hh0
        have KI := Lib.hid kdInfo64
        have TI := Lib.hid t3Info64
        have HFUL := Lib.hid hful
        have HOWN := Lib.hid hown
        have HROW := Lib.hid hrow
        have HBE := Lib.hid hbe
        clear hcs hcell hful hh0 k2 k7 k15 k16 hrow hbe hown
        have a2 : (0 : Int) ≤ (n : Int) - 2 := by omega
        have b2 : (n : Int) - 2 < (n : Int) := by omega
        have cc2 : (2 : Int) ≤ (n : Int) := by omega
        have t2 : ((n : Int) - 2).toNat = n - 2 := by omega
        have s2 : IntKind.i64.wrap ((n : Int) - 2) = (n : Int) - 2 := IntWalk.i64_in _ (by omega)
        have a7 : (0 : Int) ≤ (n : Int) - 7 := by omega
        have b7 : (n : Int) - 7 < (n : Int) := by omega
        have cc7 : (7 : Int) ≤ (n : Int) := by omega
        have t7 : ((n : Int) - 7).toNat = n - 7 := by omega
        have s7 : IntKind.i64.wrap ((n : Int) - 7) = (n : Int) - 7 := IntWalk.i64_in _ (by omega)
        have a15 : (0 : Int) ≤ (n : Int) - 15 := by omega
        have b15 : (n : Int) - 15 < (n : Int) := by omega
        have cc15 : (15 : Int) ≤ (n : Int) := by omega
        have t15 : ((n : Int) - 15).toNat = n - 15 := by omega
        have s15 : IntKind.i64.wrap ((n : Int) - 15) = (n : Int) - 15 := IntWalk.i64_in _ (by omega)
        have a16 : (0 : Int) ≤ (n : Int) - 16 := by omega
        have b16 : (n : Int) - 16 < (n : Int) := by omega
        have cc16 : (16 : Int) ≤ (n : Int) := by omega
        have t16 : ((n : Int) - 16).toNat = n - 16 := by omega
        have s16 : IntKind.i64.wrap ((n : Int) - 16) = (n : Int) - 16 := IntWalk.i64_in _ (by omega)
        have bi : (n : Int) < 80 := by omega
        have d16 : decide ((n : Int) < 16) = false := by simp; omega
        go_wp2_with fail
        refine wp_region_any (by kernel_rfl) ?_
        change wpAny _ _ _ _ _ _ _ (World.drew _)
        refine wpAny_of_held (S := (fun w' : World => Row w' w.heap.size 53 (KdL64 A B) ∧ w'.cell? ⟨gw, n - 2, none⟩ = some (.int .u64 ((x2 : Nat) : Int)) ∧ w'.cell? ⟨gw, n - 7, none⟩ = some (.int .u64 ((x7 : Nat) : Int)) ∧ w'.cell? ⟨gw, n - 15, none⟩ = some (.int .u64 ((x15 : Nat) : Int)) ∧ w'.cell? ⟨gw, n - 16, none⟩ = some (.int .u64 ((x16 : Nat) : Int)))) _ _ _ _ ?_
        have hHeld := HH0.out
        refine wpAnyH_take (i := 1) (v := ?_) rfl (by kernel_rfl) (by kernel_rfl) (by kernel_rfl) (fun _ _ _ h => h) (Or.inl ⟨by rfl, ?_⟩) hHeld ?_
        rotate_left
        · (intro w' hSw; go_simp; try (with_reducible rfl))
        change wpAnyH _ _ _ _ _ _ _ (Act.put _ (some 48) _) _
        simp only [Act.put, List.setIfInBounds_toArray, List.set_cons_zero, List.set_cons_succ]
        refine wpAnyH_take (i := 2) (v := ?_) rfl (by kernel_rfl) (by kernel_rfl) (by kernel_rfl) (fun _ _ _ h => h) (Or.inl ⟨by rfl, ?_⟩) hHeld ?_
        rotate_left
        · (intro w' hSw; go_simp; try (with_reducible rfl))
        change wpAnyH _ _ _ _ _ _ _ (Act.put _ (some 49) _) _
        simp only [Act.put, List.setIfInBounds_toArray, List.set_cons_zero, List.set_cons_succ]
        refine wpAnyH_take (i := 3) (v := ?_) rfl (by kernel_rfl) (by kernel_rfl) (by kernel_rfl) (fun _ _ _ h => h) (Or.inl ⟨by rfl, ?_⟩) hHeld ?_
        rotate_left
        · (intro w' hSw; go_simp; try (with_reducible rfl))
        change wpAnyH _ _ _ _ _ _ _ (Act.put _ (some 50) _) _
        simp only [Act.put, List.setIfInBounds_toArray, List.set_cons_zero, List.set_cons_succ]
        refine wpAnyH_take (i := 4) (v := ?_) rfl (by kernel_rfl) (by kernel_rfl) (by kernel_rfl) (fun _ _ _ h => h) (Or.inl ⟨by rfl, ?_⟩) hHeld ?_
        rotate_left
        · (intro w' hSw; go_simp; try (with_reducible rfl))
        change wpAnyH _ _ _ _ _ _ _ (Act.put _ (some 51) _) _
        simp only [Act.put, List.setIfInBounds_toArray, List.set_cons_zero, List.set_cons_succ]
        refine wpAnyH_take (i := 6) (v := ?_) rfl (by kernel_rfl) (by kernel_rfl) (by kernel_rfl) (fun _ _ _ h => h) (Or.inl ⟨by rfl, ?_⟩) hHeld ?_
        rotate_left
        · (intro w' hSw; go_simp; try (with_reducible rfl))
        change wpAnyH _ _ _ _ _ _ _ (Act.put _ (some 53) _) _
        simp only [Act.put, List.setIfInBounds_toArray, List.set_cons_zero, List.set_cons_succ]
        refine wpAnyH_take (i := 9) (v := ?_) rfl (by kernel_rfl) (by kernel_rfl) (by kernel_rfl) (fun _ _ _ h => h) (Or.inl ⟨by rfl, ?_⟩) hHeld ?_
        rotate_left
        · (intro w' hSw; go_simp; try (with_reducible rfl))
        change wpAnyH _ _ _ _ _ _ _ (Act.put _ (some 56) _) _
        simp only [Act.put, List.setIfInBounds_toArray, List.set_cons_zero, List.set_cons_succ]
        refine wpAnyH_take (i := 10) (v := ?_) rfl (by kernel_rfl) (by kernel_rfl) (by kernel_rfl) (fun _ _ _ h => h) (Or.inl ⟨by rfl, ?_⟩) hHeld ?_
        rotate_left
        · (intro w' hSw; go_simp; try (with_reducible rfl))
        change wpAnyH _ _ _ _ _ _ _ (Act.put _ (some 57) _) _
        simp only [Act.put, List.setIfInBounds_toArray, List.set_cons_zero, List.set_cons_succ]
        refine wpAnyH_take (i := 11) (v := ?_) rfl (by kernel_rfl) (by kernel_rfl) (by kernel_rfl) (fun _ _ _ h => h) (Or.inl ⟨by rfl, ?_⟩) hHeld ?_
        rotate_left
        · (intro w' hSw; go_simp; try (with_reducible rfl))
        change wpAnyH _ _ _ _ _ _ _ (Act.put _ (some 58) _) _
        simp only [Act.put, List.setIfInBounds_toArray, List.set_cons_zero, List.set_cons_succ]
        refine wpAnyH_take (i := 12) (v := ?_) rfl (by kernel_rfl) (by kernel_rfl) (by kernel_rfl) (fun _ _ _ h => h) (Or.inl ⟨by rfl, ?_⟩) hHeld ?_
        rotate_left
        · (intro w' hSw; go_simp; try (with_reducible rfl))
        change wpAnyH _ _ _ _ _ _ _ (Act.put _ (some 59) _) _
        simp only [Act.put, List.setIfInBounds_toArray, List.set_cons_zero, List.set_cons_succ]
        refine wpAnyH_take (i := 16) (v := ?_) rfl (by kernel_rfl) (by kernel_rfl) (by kernel_rfl) (fun _ _ _ h => h) (Or.inl ⟨by rfl, ?_⟩) hHeld ?_
        rotate_left
        · (intro w' hSw; go_simp; try (with_reducible rfl))
        change wpAnyH _ _ _ _ _ _ _ (Act.put _ (some 63) _) _
        simp only [Act.put, List.setIfInBounds_toArray, List.set_cons_zero, List.set_cons_succ]
        refine wpAnyH_take (i := 17) (v := ?_) rfl (by kernel_rfl) (by kernel_rfl) (by kernel_rfl) (fun _ _ _ h => h) (Or.inl ⟨by rfl, ?_⟩) hHeld ?_
        rotate_left
        · (intro w' hSw; go_simp; try (with_reducible rfl))
        change wpAnyH _ _ _ _ _ _ _ (Act.put _ (some 64) _) _
        simp only [Act.put, List.setIfInBounds_toArray, List.set_cons_zero, List.set_cons_succ]
        refine wpAnyH_take (i := 18) (v := ?_) rfl (by kernel_rfl) (by kernel_rfl) (by kernel_rfl) (fun _ _ _ h => h) (Or.inl ⟨by rfl, ?_⟩) hHeld ?_
        rotate_left
        · (intro w' hSw; go_simp; try (with_reducible rfl))
        change wpAnyH _ _ _ _ _ _ _ (Act.put _ (some 65) _) _
        simp only [Act.put, List.setIfInBounds_toArray, List.set_cons_zero, List.set_cons_succ]
        refine wpAnyH_take (i := 19) (v := ?_) rfl (by kernel_rfl) (by kernel_rfl) (by kernel_rfl) (fun _ _ _ h => h) (Or.inl ⟨by rfl, ?_⟩) hHeld ?_
        rotate_left
        · (intro w' hSw; go_simp; try (with_reducible rfl))
        change wpAnyH _ _ _ _ _ _ _ (Act.put _ (some 66) _) _
        simp only [Act.put, List.setIfInBounds_toArray, List.set_cons_zero, List.set_cons_succ]
        refine wpAnyH_take (i := 21) (v := ?_) rfl (by kernel_rfl) (by kernel_rfl) (by kernel_rfl) (fun _ _ _ h => h) (Or.inl ⟨by rfl, ?_⟩) hHeld ?_
        rotate_left
        · (intro w' hSw; go_simp; try (with_reducible rfl))
        change wpAnyH _ _ _ _ _ _ _ (Act.put _ (some 68) _) _
        simp only [Act.put, List.setIfInBounds_toArray, List.set_cons_zero, List.set_cons_succ]
        refine wpAnyH_take (i := 25) (v := ?_) rfl (by kernel_rfl) (by kernel_rfl) (by kernel_rfl) (fun _ _ _ h => h) (Or.inl ⟨by rfl, ?_⟩) hHeld ?_
        rotate_left
        · (intro w' hSw; go_simp; try (with_reducible rfl))
        change wpAnyH _ _ _ _ _ _ _ (Act.put _ (some 72) _) _
        simp only [Act.put, List.setIfInBounds_toArray, List.set_cons_zero, List.set_cons_succ]
        refine wpAnyH_take (i := 26) (v := ?_) rfl (by kernel_rfl) (by kernel_rfl) (by kernel_rfl) (fun _ _ _ h => h) (Or.inl ⟨by rfl, ?_⟩) hHeld ?_
        rotate_left
        · (intro w' hSw; go_simp; try (with_reducible rfl))
        change wpAnyH _ _ _ _ _ _ _ (Act.put _ (some 73) _) _
        simp only [Act.put, List.setIfInBounds_toArray, List.set_cons_zero, List.set_cons_succ]
        refine wpAnyH_take (i := 27) (v := ?_) rfl (by kernel_rfl) (by kernel_rfl) (by kernel_rfl) (fun _ _ _ h => h) (Or.inl ⟨by rfl, ?_⟩) hHeld ?_
        rotate_left
        · (intro w' hSw; go_simp; try (with_reducible rfl))
        change wpAnyH _ _ _ _ _ _ _ (Act.put _ (some 74) _) _
        simp only [Act.put, List.setIfInBounds_toArray, List.set_cons_zero, List.set_cons_succ]
        refine wpAnyH_take (i := 28) (v := ?_) rfl (by kernel_rfl) (by kernel_rfl) (by kernel_rfl) (fun _ _ _ h => h) (Or.inl ⟨by rfl, ?_⟩) hHeld ?_
        rotate_left
        · (intro w' hSw; go_simp; try (with_reducible rfl))
        change wpAnyH _ _ _ _ _ _ _ (Act.put _ (some 75) _) _
        simp only [Act.put, List.setIfInBounds_toArray, List.set_cons_zero, List.set_cons_succ]
        refine wpAnyH_take (i := 31) (v := ?_) rfl (by kernel_rfl) (by kernel_rfl) (by kernel_rfl) (fun _ _ _ h => h) (Or.inl ⟨by rfl, ?_⟩) hHeld ?_
        rotate_left
        · (intro w' hSw; go_simp; try (with_reducible rfl))
        change wpAnyH _ _ _ _ _ _ _ (Act.put _ (some 78) _) _
        simp only [Act.put, List.setIfInBounds_toArray, List.set_cons_zero, List.set_cons_succ]
        refine wpAnyH_take (i := 0) (v := .agg (KdL64 A B).toArray) rfl (by kernel_rfl) (by kernel_rfl) (by kernel_rfl) (fun _ _ _ h => h) (yieldsIf_load_mid (by rfl) 53 (.tmp 3) rfl w.heap.size 0 rfl (KdL64 A B) _ (fun w' hSw => hSw.1.range) (by rfl) rfl KI.out) hHeld ?_
        change wpAnyH _ _ _ _ _ _ _ (Act.put _ (some 47) _) _
        simp only [Act.put, List.setIfInBounds_toArray, List.set_cons_zero, List.set_cons_succ]
        refine wpAnyH_take (i := 15) (v := .agg (KdL64 A B).toArray) rfl (by kernel_rfl) (by kernel_rfl) (by kernel_rfl) (fun _ _ _ h => h) (yieldsIf_load_mid (by rfl) 53 (.tmp 3) rfl w.heap.size 0 rfl (KdL64 A B) _ (fun w' hSw => hSw.1.range) (by rfl) rfl KI.out) hHeld ?_
        change wpAnyH _ _ _ _ _ _ _ (Act.put _ (some 62) _) _
        simp only [Act.put, List.setIfInBounds_toArray, List.set_cons_zero, List.set_cons_succ]
        refine wpAnyH_take (i := 7) (v := .agg ([.int .i64 19, .int .i64 61, .int .i64 6]).toArray) rfl (by kernel_rfl) (by kernel_rfl) (by kernel_rfl) (fun _ _ _ h => h) (yieldsIf_load_mid (by rfl) 50 (.tmp 53) rfl w.heap.size 12 rfl ([.int .i64 19, .int .i64 61, .int .i64 6]) _ (fun w' hSw => rowmid64 hSw.1 12 rfl) (by rfl) rfl TI.out) hHeld ?_
        change wpAnyH _ _ _ _ _ _ _ (Act.put _ (some 54) _) _
        simp only [Act.put, List.setIfInBounds_toArray, List.set_cons_zero, List.set_cons_succ]
        refine wpAnyH_take (i := 22) (v := .agg ([.int .i64 1, .int .i64 8, .int .i64 7]).toArray) rfl (by kernel_rfl) (by kernel_rfl) (by kernel_rfl) (fun _ _ _ h => h) (yieldsIf_load_mid (by rfl) 50 (.tmp 68) rfl w.heap.size 9 rfl ([.int .i64 1, .int .i64 8, .int .i64 7]) _ (fun w' hSw => rowmid64 hSw.1 9 rfl) (by rfl) rfl TI.out) hHeld ?_
        change wpAnyH _ _ _ _ _ _ _ (Act.put _ (some 69) _) _
        simp only [Act.put, List.setIfInBounds_toArray, List.set_cons_zero, List.set_cons_succ]
        refine wpAnyH_take (i := 5) (v := ?_) rfl (by kernel_rfl) (by kernel_rfl) (by kernel_rfl) (fun _ _ _ h => h) (Or.inl ⟨by rfl, ?_⟩) hHeld ?_
        rotate_left
        · (intro w' hSw; have c0 := hSw.2.1; go_simp; try (with_reducible rfl))
        change wpAnyH _ _ _ _ _ _ _ (Act.put _ (some 52) _) _
        simp only [Act.put, List.setIfInBounds_toArray, List.set_cons_zero, List.set_cons_succ]
        refine wpAnyH_take (i := 13) (v := ?_) rfl (by kernel_rfl) (by kernel_rfl) (by kernel_rfl) (fun _ _ _ h => h) (Or.inl ⟨by rfl, ?_⟩) hHeld ?_
        rotate_left
        · (intro w' hSw; have c0 := hSw.2.2.1; go_simp; try (with_reducible rfl))
        change wpAnyH _ _ _ _ _ _ _ (Act.put _ (some 60) _) _
        simp only [Act.put, List.setIfInBounds_toArray, List.set_cons_zero, List.set_cons_succ]
        refine wpAnyH_take (i := 20) (v := ?_) rfl (by kernel_rfl) (by kernel_rfl) (by kernel_rfl) (fun _ _ _ h => h) (Or.inl ⟨by rfl, ?_⟩) hHeld ?_
        rotate_left
        · (intro w' hSw; have c0 := hSw.2.2.2.1; go_simp; try (with_reducible rfl))
        change wpAnyH _ _ _ _ _ _ _ (Act.put _ (some 67) _) _
        simp only [Act.put, List.setIfInBounds_toArray, List.set_cons_zero, List.set_cons_succ]
        refine wpAnyH_take (i := 29) (v := ?_) rfl (by kernel_rfl) (by kernel_rfl) (by kernel_rfl) (fun _ _ _ h => h) (Or.inl ⟨by rfl, ?_⟩) hHeld ?_
        rotate_left
        · (intro w' hSw; have c0 := hSw.2.2.2.2; go_simp; try (with_reducible rfl))
        change wpAnyH _ _ _ _ _ _ _ (Act.put _ (some 76) _) _
        simp only [Act.put, List.setIfInBounds_toArray, List.set_cons_zero, List.set_cons_succ]
        refine wpAnyH_take (i := 32) (v := ?_) rfl (by kernel_rfl) (by kernel_rfl) (by kernel_rfl) (fun _ _ _ h => h) (Or.inl ⟨by rfl, ?_⟩) hHeld ?_
        rotate_left
        · (intro w' hSw; have c0 := hSw.1.cell (k := 16) rfl; go_simp; try (with_reducible rfl))
        change wpAnyH _ _ _ _ _ _ _ (Act.put _ (some 79) _) _
        simp only [Act.put, List.setIfInBounds_toArray, List.set_cons_zero, List.set_cons_succ]
        refine wpAnyH_ready (rs := [8]) (by kernel_rfl) (by simp) ?_
        refine AllReadyH.cons rfl (fun K hK => ?_) AllReadyH.nil
        rw [if_pos (by kernel_rfl)]
        go_simp
        refine (rsml64 A B x2 19 61 6 _ g2 (by decide) (by decide) (by decide) (by decide) (by decide)).mono ?_
        rintro e w3 ⟨rfl, hb3⟩
        have hbl3 := (Below.lt_of64 hb3 hHeld.2.1)
        refine hK.out _ _ ⟨hHeld.1.belowAll hb3, hbl3 _ _ hHeld.2.1, hbl3 _ _ hHeld.2.2.1, hbl3 _ _ hHeld.2.2.2.1, hbl3 _ _ hHeld.2.2.2.2⟩ (fun hHeld => ?_)
        clear hK K
        have HBB3 := Lib.hid hb3
        clear hb3 hbl3
        refine wpAnyH_take (i := 14) (v := ?_) rfl (by kernel_rfl) (by kernel_rfl) (by kernel_rfl) (fun _ _ _ h => h) (Or.inl ⟨by rfl, ?_⟩) hHeld ?_
        rotate_left
        · (intro w' hSw; go_simp; try (with_reducible rfl))
        change wpAnyH _ _ _ _ _ _ _ (Act.put _ (some 61) _) _
        simp only [Act.put, List.setIfInBounds_toArray, List.set_cons_zero, List.set_cons_succ]
        refine wpAnyH_ready (rs := [23]) (by kernel_rfl) (by simp) ?_
        refine AllReadyH.cons rfl (fun K hK => ?_) AllReadyH.nil
        rw [if_pos (by kernel_rfl)]
        go_simp
        refine (rsml64 A B x15 1 8 7 _ g15 (by decide) (by decide) (by decide) (by decide) (by decide)).mono ?_
        rintro e w4 ⟨rfl, hb4⟩
        have hbl4 := (Below.lt_of64 hb4 hHeld.2.1)
        refine hK.out _ _ ⟨hHeld.1.belowAll hb4, hbl4 _ _ hHeld.2.1, hbl4 _ _ hHeld.2.2.1, hbl4 _ _ hHeld.2.2.2.1, hbl4 _ _ hHeld.2.2.2.2⟩ (fun hHeld => ?_)
        clear hK K
        have HBB4 := Lib.hid hb4
        clear hb4 hbl4
        refine wpAnyH_take (i := 24) (v := ?_) rfl (by kernel_rfl) (by kernel_rfl) (by kernel_rfl) (fun _ _ _ h => h) (Or.inl ⟨by rfl, ?_⟩) hHeld ?_
        rotate_left
        · (intro w' hSw; go_simp; try (with_reducible rfl))
        change wpAnyH _ _ _ _ _ _ _ (Act.put _ (some 71) _) _
        simp only [Act.put, List.setIfInBounds_toArray, List.set_cons_zero, List.set_cons_succ]
        refine wpAnyH_take (i := 30) (v := ?_) rfl (by kernel_rfl) (by kernel_rfl) (by kernel_rfl) (fun _ _ _ h => h) (Or.inl ⟨by rfl, ?_⟩) hHeld ?_
        rotate_left
        · (intro w' hSw; go_simp; try (with_reducible rfl))
        change wpAnyH _ _ _ _ _ _ _ (Act.put _ (some 77) _) _
        simp only [Act.put, List.setIfInBounds_toArray, List.set_cons_zero, List.set_cons_succ]
        refine wpAnyH_take (i := 33) (v := ?_) rfl (by kernel_rfl) (by kernel_rfl) (by kernel_rfl) (fun _ _ _ h => h) (Or.inl ⟨by rfl, ?_⟩) hHeld ?_
        rotate_left
        · (intro w' hSw; go_simp; try (with_reducible rfl))
        change wpAnyH _ _ _ _ _ _ _ (Act.put _ (some 80) _) _
        simp only [Act.put, List.setIfInBounds_toArray, List.set_cons_zero, List.set_cons_succ]
        refine wpAnyH_ready (rs := [34]) (by kernel_rfl) (by simp) ?_
        refine AllReadyH.cons rfl (fun K hK => ?_) AllReadyH.nil
        rw [if_pos (by kernel_rfl)]
        go_simp
        refine hK.out _ _ hHeld (fun hHeld => ?_)
        clear hK K
        refine wpAnyH_done (by kernel_rfl) ?_ _
        go_upto_region 12 with fail
        rw [andsum64, ← HFUL.out]
        have hbA : Below wr.heap.size wr w3 := ((Below.refl wr.heap.size wr).drew).trans HBB3.out
        have hbB : Below wr.heap.size wr w4 := hbA.trans (HBB4.out.mono hbA.size)
        have hown : w4.ownsRow (w.heap.size + 1) 51 1 (.slice (some ⟨gw, 0, none⟩) n cv) n (Vs64 ((ful64 (wds64 ms)).take n)) := own_below HOWN.out hbB
        have hrow := HROW.out.belowAll hbB
        have hbe : Below w.heap.size w w4 := HBE.out.trans (hbB.mono HBE.out.size)
        clear hbA hbB a2 b2 cc2 t2 s2 a7 b7 cc7 t7 s7 a15 b15 cc15 t15 s15 a16 b16 cc16 t16 s16 bi d16
        generalize w4 = wy at *
        have hsz : w.heap.size + 1 ≤ wy.heap.size := by have := hrow.lt; omega
        have hup := ful64_succ (wds64_len ms) hlt
        generalize (ful64 (wds64 ms)).getD n 0 = x at *
        have HOWN2 := Lib.hid hown
        have HROW2 := Lib.hid hrow
        have HBE2 := Lib.hid hbe
        have HSZ := Lib.hid hsz
        have HUP := Lib.hid hup
        clear hown hrow hbe hsz hup
        go_wp2_with (at_builtin; refine wpList_append_rd _ rfl (.tmp 81) (.tmp 83) 49 rfl (w.heap.size + 1) 51 i0 (.int .u64 0) 8 Tryd.underlying49 HI.out HZ0.out HZ1.out HZ2.out rfl (.slice (some ⟨gw, 0, none⟩) n cv) n (Vs64 ((ful64 (wds64 ms)).take n)) rfl (HOWN2.out.alloc _) (fun j => j = wy.heap.size) (some ⟨wy.heap.size, 0, none⟩) 1 1 (Vs64 [x]) rfl (Rd.lit wy (Vs64 [x]) _ _ rfl 1 rfl) (Vs64_one _) (by unfold maxLen; omega) (by omega) (by have := HSZ.out; simp; omega) ?_)
        intro v' w2 hown2 hg2 _
        have hrow2 : Row w2 w.heap.size 53 (KdL64 A B) := ((Below.refl (w.heap.size + 1) wy).alloc HSZ.out _ |>.grown hg2 (by have := HSZ.out; simp; omega) (fun j hj => (HOWN2.out.lt j hj).1) |>.block _ (by omega)).trans HROW2.out
        have hb2 : Below w.heap.size w w2 := (HBE2.out.alloc HBE2.out.size _).grown hg2 (by have := HBE2.out.size; simp; omega) (fun j hj => by have := (HOWN2.out.lt j hj).1; omega)
        rw [← Vs64_append, ← HUP.out] at hown2
        have HO2 := Lib.hid hown2
        have HR2 := Lib.hid hrow2
        have HB2 := Lib.hid hb2
        clear hown2 hg2 hrow2 hb2
        go_wp2_with fail
        go_roundw
        case rel => exact ⟨n + 1, by omega, by go_num, HO2.out, HR2.out, HB2.out⟩
        case measure => simp [intOf]; omega
    · obtain rfl : n = 80 := by omega
      have hgw := hown.form (by decide)
      obtain ⟨gw, cap, hv, hgb, hgl⟩ := hgw
      injection hv with hA _ hC
      subst hA hC
      have hcs := hown.cells (g := gw) rfl
      have hft : (ful64 (wds64 ms)).take 80 = ful64 (wds64 ms) := List.take_of_length_le (by rw [ful64_len (wds64_len ms)]; decide)
      rw [hft] at hcs
      have hrw : wr.rangeAt gw 0 (Vs64 (ful64 (wds64 ms))) := fun j v hj => by
        have h := hcs j v hj
        have e : (⟨gw, 0, none⟩ : Addr).add j = ⟨gw, j, none⟩ := by unfold Addr.add; split <;> simp_all
        rw [e] at h
        rwa [Nat.zero_add]
      have hh2 : wr.rangeAt ph 0 (Vs64 s.list) := range64_below HH.out hbe HHL.out
      have hrd : Rd (wr.alloc (.cells #[] 51)) (fun _ => True) (some ⟨ph, 0, none⟩) 8 (Vs64 s.list) := by
        refine ⟨by rw [Vs64_len]; rfl, fun _ => ⟨_, rfl, trivial, by have := HHL.out; have := hbe.size; simp; omega, fun j u hu => ?_⟩⟩
        have e : (⟨ph, 0, none⟩ : Addr).add j = ⟨ph, j, none⟩ := by unfold Addr.add; split <;> simp_all
        rw [e, World.cell?_alloc_lt _ _ _ (show ph < wr.heap.size by have := HHL.out; have := hbe.size; omega)]
        have h := hh2 j u hu
        rwa [Nat.zero_add] at h
      have hbw : w.heap.size ≤ wr.heap.size := hbe.size
      have HRD := Lib.hid hrd
      have HROW := Lib.hid hrow
      have HBE := Lib.hid hbe
      have HRW := Lib.hid hrw
      have HGL := Lib.hid hgl
      have HBW := Lib.hid hbw
      clear hown hcs hft hrw hh2 hrd hrow hbe hgl hbw
      go_upto_region 13 with fail
      clear c0
      go_wp2_with (at_builtin; refine wpList_append_rd _ rfl (.tmp 85) (.tmp 86) 49 rfl wr.heap.size 51 i0 (.int .u64 0) 8 Tryd.underlying49 HI.out HZ0.out HZ1.out HZ2.out rfl (.slice (some ⟨wr.heap.size, 0, none⟩) 0 0) 0 [] rfl (World.ownsRow_made wr #[] 0 (Nat.le_refl _) (by decide) rfl) _ (some ⟨ph, 0, none⟩) 8 ch (Vs64 s.list) rfl HRD.out (Vs64_one _) (by decide) (by decide) (by simp) ?_)
      intro v' w2 hown2 hg2 _
      have hgp := hown2.form (by decide)
      obtain ⟨p, cap2, rfl, hpb, hpl⟩ := hgp
      have hcs2 := hown2.cells (g := p) rfl
      have hrv : w2.rangeAt p 0 (Vs64 s.list) := fun j v hj => by
        have h := hcs2 j v hj
        have e : (⟨p, 0, none⟩ : Addr).add j = ⟨p, j, none⟩ := by unfold Addr.add; split <;> simp_all
        rw [e] at h
        rwa [Nat.zero_add]
      have hb2 : Below wr.heap.size wr w2 := ((Below.refl _ _).alloc (Nat.le_refl _) _).grown hg2 (by simp) (fun j hj => by have hj' : wr.heap.size = j := Option.some.inj hj; omega)
      have hrow2 := HROW.out.belowAll hb2
      have hbe2 : Below w.heap.size w w2 := HBE.out.trans (hb2.mono HBW.out)
      have hrw2 := range64_below HRW.out hb2 HGL.out
      have hgl2 : gw < w2.heap.size := Nat.lt_of_lt_of_le HGL.out hb2.size
      have HRV := Lib.hid hrv
      have HROW2 := Lib.hid hrow2
      have HBE2 := Lib.hid hbe2
      have HRW2 := Lib.hid hrw2
      have HGL2 := Lib.hid hgl2
      have HPL := Lib.hid hpl
      clear hown2 hg2 hcs2 hrv hb2 hrow2 hbe2 hrw2 hgl2 hpb hpl HRD HROW HBE HRW HGL HBW
      go_wp2_with fail
      go_loopw [11, 12, 13, 14] (fun v i _ _ wx => ∃ k p c : Nat, k ≤ 80 ∧ i = .int .i64 k ∧ v = .slice (some ⟨p, 0, none⟩) 8 c ∧ wx.rangeAt p 0 (Vs64 (rst64 s (wds64 ms) k).list) ∧ p < wx.heap.size ∧ Row wx w.heap.size 53 (KdL64 A B) ∧ wx.rangeAt gw 0 (Vs64 (ful64 (wds64 ms))) ∧ gw < wx.heap.size ∧ Below w.heap.size w wx) (fun _ i _ _ _ => 80 - (intOf i).toNat)
      case atStart => exact ⟨0, p, cap2, Nat.zero_le _, rfl, rfl, HRV.out, HPL.out, HROW2.out, HRW2.out, HGL2.out, HBE2.out⟩
      case round =>
        obtain ⟨k, p, c, hk, rfl, rfl, hrv, hpl, hrow, hrw, hgl, hbe⟩ := hrel
        have hok : (rst64 s (wds64 ms) k).ok := rns64_ok HO.out _ _ k
        have hsuc := rst64_succ s (wds64 ms) k
        have c2 := hrow.cell (k := 2) rfl
        by_cases hlt : k < 80
        · have cR := rg64 (range64_below (HB.out.range) hbe HB.out.lt) (k := k) (by rw [rc64_len]; exact hlt)
          have cX := rg64 hrw (k := k) (by rw [ful64_len (wds64_len ms)]; exact hlt)
          generalize rc64.getD k 0 = rk at *
          generalize (ful64 (wds64 ms)).getD k 0 = xk at *
          rw [rndeq64] at hsuc
          generalize rst64 s (wds64 ms) k = S at *
          obtain ⟨s0, s1, s2, s3, s4, s5, s6, s7⟩ := S
          obtain ⟨h0, h1, h2, h3, h4, h5, h6, h7⟩ := hok
          dsimp only at h0 h1 h2 h3 h4 h5 h6 h7 hsuc
          have v0 := rg64 hrv (k := 0) (by show 0 < 8; decide)
          have v1 := rg64 hrv (k := 1) (by show 1 < 8; decide)
          have v2 := rg64 hrv (k := 2) (by show 2 < 8; decide)
          have v3 := rg64 hrv (k := 3) (by show 3 < 8; decide)
          have v4 := rg64 hrv (k := 4) (by show 4 < 8; decide)
          have v5 := rg64 hrv (k := 5) (by show 5 < 8; decide)
          have v6 := rg64 hrv (k := 6) (by show 6 < 8; decide)
          have v7 := rg64 hrv (k := 7) (by show 7 < 8; decide)
          have hh17 : (fun w' : World => Row w' w.heap.size 53 (KdL64 A B) ∧ w'.cell? ⟨p, 0, none⟩ = some (.int .u64 ((s0 : Nat) : Int)) ∧ w'.cell? ⟨p, 1, none⟩ = some (.int .u64 ((s1 : Nat) : Int)) ∧ w'.cell? ⟨p, 2, none⟩ = some (.int .u64 ((s2 : Nat) : Int)) ∧ w'.cell? ⟨p, 3, none⟩ = some (.int .u64 ((s3 : Nat) : Int)) ∧ w'.cell? ⟨p, 4, none⟩ = some (.int .u64 ((s4 : Nat) : Int)) ∧ w'.cell? ⟨p, 5, none⟩ = some (.int .u64 ((s5 : Nat) : Int)) ∧ w'.cell? ⟨p, 6, none⟩ = some (.int .u64 ((s6 : Nat) : Int)) ∧ w'.cell? ⟨p, 7, none⟩ = some (.int .u64 ((s7 : Nat) : Int)) ∧ w'.cell? ⟨B, k, none⟩ = some (.int .u64 ((rk : Nat) : Int)) ∧ w'.cell? ⟨gw, k, none⟩ = some (.int .u64 ((xk : Nat) : Int))) wr.drew := ⟨hrow.drewN 1, v0, v1, v2, v3, v4, v5, v6, v7, cR, cX⟩
          have KI := Lib.hid kdInfo64
          have TI := Lib.hid t3Info64
          have HH17 := Lib.hid hh17
          have HSUC := Lib.hid hsuc
          have HROW := Lib.hid hrow
          have HRW := Lib.hid hrw
          have HGL := Lib.hid hgl
          have HBE := Lib.hid hbe
          have ch1 := rch64 h4 h5 h6
          have mj1 := rmaj64 h0 h1 h2
          have bi : (k : Int) < 80 := by omega
          have b0 : (0 : Int) ≤ (k : Int) := by omega
          have CH1 := Lib.hid ch1
          have MJ1 := Lib.hid mj1
          clear hh17 hsuc hrow hrw hgl hbe hrv hpl v0 v1 v2 v3 v4 v5 v6 v7 cR cX ch1 mj1
          go_upto_region 17 with fail
          clear c2
          refine wp_region_any (by kernel_rfl) ?_
          change wpAny _ _ _ _ _ _ _ (World.drew _)
          refine wpAny_of_held (S := (fun w' : World => Row w' w.heap.size 53 (KdL64 A B) ∧ w'.cell? ⟨p, 0, none⟩ = some (.int .u64 ((s0 : Nat) : Int)) ∧ w'.cell? ⟨p, 1, none⟩ = some (.int .u64 ((s1 : Nat) : Int)) ∧ w'.cell? ⟨p, 2, none⟩ = some (.int .u64 ((s2 : Nat) : Int)) ∧ w'.cell? ⟨p, 3, none⟩ = some (.int .u64 ((s3 : Nat) : Int)) ∧ w'.cell? ⟨p, 4, none⟩ = some (.int .u64 ((s4 : Nat) : Int)) ∧ w'.cell? ⟨p, 5, none⟩ = some (.int .u64 ((s5 : Nat) : Int)) ∧ w'.cell? ⟨p, 6, none⟩ = some (.int .u64 ((s6 : Nat) : Int)) ∧ w'.cell? ⟨p, 7, none⟩ = some (.int .u64 ((s7 : Nat) : Int)) ∧ w'.cell? ⟨B, k, none⟩ = some (.int .u64 ((rk : Nat) : Int)) ∧ w'.cell? ⟨gw, k, none⟩ = some (.int .u64 ((xk : Nat) : Int)))) _ _ _ _ ?_
          have hHeld := HH17.out
          refine wpAnyH_take (i := 0) (v := ?_) rfl (by kernel_rfl) (by kernel_rfl) (by kernel_rfl) (fun _ _ _ h => h) (Or.inl ⟨by rfl, ?_⟩) hHeld ?_
          rotate_left
          · (intro w' hSw; go_simp; try (with_reducible rfl))
          change wpAnyH _ _ _ _ _ _ _ (Act.put _ (some 95) _) _
          simp only [Act.put, List.setIfInBounds_toArray, List.set_cons_zero, List.set_cons_succ]
          refine wpAnyH_take (i := 1) (v := ?_) rfl (by kernel_rfl) (by kernel_rfl) (by kernel_rfl) (fun _ _ _ h => h) (Or.inl ⟨by rfl, ?_⟩) hHeld ?_
          rotate_left
          · (intro w' hSw; go_simp; try (with_reducible rfl))
          change wpAnyH _ _ _ _ _ _ _ (Act.put _ (some 96) _) _
          simp only [Act.put, List.setIfInBounds_toArray, List.set_cons_zero, List.set_cons_succ]
          refine wpAnyH_take (i := 4) (v := ?_) rfl (by kernel_rfl) (by kernel_rfl) (by kernel_rfl) (fun _ _ _ h => h) (Or.inl ⟨by rfl, ?_⟩) hHeld ?_
          rotate_left
          · (intro w' hSw; go_simp; try (with_reducible rfl))
          change wpAnyH _ _ _ _ _ _ _ (Act.put _ (some 99) _) _
          simp only [Act.put, List.setIfInBounds_toArray, List.set_cons_zero, List.set_cons_succ]
          refine wpAnyH_take (i := 5) (v := ?_) rfl (by kernel_rfl) (by kernel_rfl) (by kernel_rfl) (fun _ _ _ h => h) (Or.inl ⟨by rfl, ?_⟩) hHeld ?_
          rotate_left
          · (intro w' hSw; go_simp; try (with_reducible rfl))
          change wpAnyH _ _ _ _ _ _ _ (Act.put _ (some 100) _) _
          simp only [Act.put, List.setIfInBounds_toArray, List.set_cons_zero, List.set_cons_succ]
          refine wpAnyH_take (i := 7) (v := ?_) rfl (by kernel_rfl) (by kernel_rfl) (by kernel_rfl) (fun _ _ _ h => h) (Or.inl ⟨by rfl, ?_⟩) hHeld ?_
          rotate_left
          · (intro w' hSw; go_simp; try (with_reducible rfl))
          change wpAnyH _ _ _ _ _ _ _ (Act.put _ (some 102) _) _
          simp only [Act.put, List.setIfInBounds_toArray, List.set_cons_zero, List.set_cons_succ]
          refine wpAnyH_take (i := 11) (v := ?_) rfl (by kernel_rfl) (by kernel_rfl) (by kernel_rfl) (fun _ _ _ h => h) (Or.inl ⟨by rfl, ?_⟩) hHeld ?_
          rotate_left
          · (intro w' hSw; go_simp; try (with_reducible rfl))
          change wpAnyH _ _ _ _ _ _ _ (Act.put _ (some 106) _) _
          simp only [Act.put, List.setIfInBounds_toArray, List.set_cons_zero, List.set_cons_succ]
          refine wpAnyH_take (i := 12) (v := ?_) rfl (by kernel_rfl) (by kernel_rfl) (by kernel_rfl) (fun _ _ _ h => h) (Or.inl ⟨by rfl, ?_⟩) hHeld ?_
          rotate_left
          · (intro w' hSw; go_simp; try (with_reducible rfl))
          change wpAnyH _ _ _ _ _ _ _ (Act.put _ (some 107) _) _
          simp only [Act.put, List.setIfInBounds_toArray, List.set_cons_zero, List.set_cons_succ]
          refine wpAnyH_take (i := 14) (v := ?_) rfl (by kernel_rfl) (by kernel_rfl) (by kernel_rfl) (fun _ _ _ h => h) (Or.inl ⟨by rfl, ?_⟩) hHeld ?_
          rotate_left
          · (intro w' hSw; go_simp; try (with_reducible rfl))
          change wpAnyH _ _ _ _ _ _ _ (Act.put _ (some 109) _) _
          simp only [Act.put, List.setIfInBounds_toArray, List.set_cons_zero, List.set_cons_succ]
          refine wpAnyH_take (i := 15) (v := ?_) rfl (by kernel_rfl) (by kernel_rfl) (by kernel_rfl) (fun _ _ _ h => h) (Or.inl ⟨by rfl, ?_⟩) hHeld ?_
          rotate_left
          · (intro w' hSw; go_simp; try (with_reducible rfl))
          change wpAnyH _ _ _ _ _ _ _ (Act.put _ (some 110) _) _
          simp only [Act.put, List.setIfInBounds_toArray, List.set_cons_zero, List.set_cons_succ]
          refine wpAnyH_take (i := 18) (v := ?_) rfl (by kernel_rfl) (by kernel_rfl) (by kernel_rfl) (fun _ _ _ h => h) (Or.inl ⟨by rfl, ?_⟩) hHeld ?_
          rotate_left
          · (intro w' hSw; go_simp; try (with_reducible rfl))
          change wpAnyH _ _ _ _ _ _ _ (Act.put _ (some 113) _) _
          simp only [Act.put, List.setIfInBounds_toArray, List.set_cons_zero, List.set_cons_succ]
          refine wpAnyH_take (i := 20) (v := ?_) rfl (by kernel_rfl) (by kernel_rfl) (by kernel_rfl) (fun _ _ _ h => h) (Or.inl ⟨by rfl, ?_⟩) hHeld ?_
          rotate_left
          · (intro w' hSw; go_simp; try (with_reducible rfl))
          change wpAnyH _ _ _ _ _ _ _ (Act.put _ (some 115) _) _
          simp only [Act.put, List.setIfInBounds_toArray, List.set_cons_zero, List.set_cons_succ]
          refine wpAnyH_take (i := 21) (v := ?_) rfl (by kernel_rfl) (by kernel_rfl) (by kernel_rfl) (fun _ _ _ h => h) (Or.inl ⟨by rfl, ?_⟩) hHeld ?_
          rotate_left
          · (intro w' hSw; go_simp; try (with_reducible rfl))
          change wpAnyH _ _ _ _ _ _ _ (Act.put _ (some 116) _) _
          simp only [Act.put, List.setIfInBounds_toArray, List.set_cons_zero, List.set_cons_succ]
          refine wpAnyH_take (i := 24) (v := ?_) rfl (by kernel_rfl) (by kernel_rfl) (by kernel_rfl) (fun _ _ _ h => h) (Or.inl ⟨by rfl, ?_⟩) hHeld ?_
          rotate_left
          · (intro w' hSw; go_simp; try (with_reducible rfl))
          change wpAnyH _ _ _ _ _ _ _ (Act.put _ (some 119) _) _
          simp only [Act.put, List.setIfInBounds_toArray, List.set_cons_zero, List.set_cons_succ]
          refine wpAnyH_take (i := 25) (v := ?_) rfl (by kernel_rfl) (by kernel_rfl) (by kernel_rfl) (fun _ _ _ h => h) (Or.inl ⟨by rfl, ?_⟩) hHeld ?_
          rotate_left
          · (intro w' hSw; go_simp; try (with_reducible rfl))
          change wpAnyH _ _ _ _ _ _ _ (Act.put _ (some 120) _) _
          simp only [Act.put, List.setIfInBounds_toArray, List.set_cons_zero, List.set_cons_succ]
          refine wpAnyH_take (i := 30) (v := ?_) rfl (by kernel_rfl) (by kernel_rfl) (by kernel_rfl) (fun _ _ _ h => h) (Or.inl ⟨by rfl, ?_⟩) hHeld ?_
          rotate_left
          · (intro w' hSw; go_simp; try (with_reducible rfl))
          change wpAnyH _ _ _ _ _ _ _ (Act.put _ (some 125) _) _
          simp only [Act.put, List.setIfInBounds_toArray, List.set_cons_zero, List.set_cons_succ]
          refine wpAnyH_take (i := 32) (v := ?_) rfl (by kernel_rfl) (by kernel_rfl) (by kernel_rfl) (fun _ _ _ h => h) (Or.inl ⟨by rfl, ?_⟩) hHeld ?_
          rotate_left
          · (intro w' hSw; go_simp; try (with_reducible rfl))
          change wpAnyH _ _ _ _ _ _ _ (Act.put _ (some 127) _) _
          simp only [Act.put, List.setIfInBounds_toArray, List.set_cons_zero, List.set_cons_succ]
          refine wpAnyH_take (i := 36) (v := ?_) rfl (by kernel_rfl) (by kernel_rfl) (by kernel_rfl) (fun _ _ _ h => h) (Or.inl ⟨by rfl, ?_⟩) hHeld ?_
          rotate_left
          · (intro w' hSw; go_simp; try (with_reducible rfl))
          change wpAnyH _ _ _ _ _ _ _ (Act.put _ (some 131) _) _
          simp only [Act.put, List.setIfInBounds_toArray, List.set_cons_zero, List.set_cons_succ]
          refine wpAnyH_take (i := 37) (v := ?_) rfl (by kernel_rfl) (by kernel_rfl) (by kernel_rfl) (fun _ _ _ h => h) (Or.inl ⟨by rfl, ?_⟩) hHeld ?_
          rotate_left
          · (intro w' hSw; go_simp; try (with_reducible rfl))
          change wpAnyH _ _ _ _ _ _ _ (Act.put _ (some 132) _) _
          simp only [Act.put, List.setIfInBounds_toArray, List.set_cons_zero, List.set_cons_succ]
          refine wpAnyH_take (i := 3) (v := .agg (KdL64 A B).toArray) rfl (by kernel_rfl) (by kernel_rfl) (by kernel_rfl) (fun _ _ _ h => h) (yieldsIf_load_mid (by rfl) 53 (.tmp 3) rfl w.heap.size 0 rfl (KdL64 A B) _ (fun w' hSw => hSw.1.range) (by rfl) rfl KI.out) hHeld ?_
          change wpAnyH _ _ _ _ _ _ _ (Act.put _ (some 98) _) _
          simp only [Act.put, List.setIfInBounds_toArray, List.set_cons_zero, List.set_cons_succ]
          refine wpAnyH_take (i := 8) (v := .agg ([.int .i64 14, .int .i64 18, .int .i64 41]).toArray) rfl (by kernel_rfl) (by kernel_rfl) (by kernel_rfl) (fun _ _ _ h => h) (yieldsIf_load_mid (by rfl) 50 (.tmp 102) rfl w.heap.size 6 rfl ([.int .i64 14, .int .i64 18, .int .i64 41]) _ (fun w' hSw => rowmid64 hSw.1 6 rfl) (by rfl) rfl TI.out) hHeld ?_
          change wpAnyH _ _ _ _ _ _ _ (Act.put _ (some 103) _) _
          simp only [Act.put, List.setIfInBounds_toArray, List.set_cons_zero, List.set_cons_succ]
          refine wpAnyH_take (i := 2) (v := ?_) rfl (by kernel_rfl) (by kernel_rfl) (by kernel_rfl) (fun _ _ _ h => h) (Or.inl ⟨by rfl, ?_⟩) hHeld ?_
          rotate_left
          · (intro w' hSw; have c0 := hSw.2.2.2.2.2.2.2.2.1; go_simp; try (with_reducible rfl))
          change wpAnyH _ _ _ _ _ _ _ (Act.put _ (some 97) _) _
          simp only [Act.put, List.setIfInBounds_toArray, List.set_cons_zero, List.set_cons_succ]
          refine wpAnyH_take (i := 6) (v := ?_) rfl (by kernel_rfl) (by kernel_rfl) (by kernel_rfl) (fun _ _ _ h => h) (Or.inl ⟨by rfl, ?_⟩) hHeld ?_
          rotate_left
          · (intro w' hSw; have c0 := hSw.2.2.2.2.2.1; go_simp; try (with_reducible rfl))
          change wpAnyH _ _ _ _ _ _ _ (Act.put _ (some 101) _) _
          simp only [Act.put, List.setIfInBounds_toArray, List.set_cons_zero, List.set_cons_succ]
          refine wpAnyH_take (i := 13) (v := ?_) rfl (by kernel_rfl) (by kernel_rfl) (by kernel_rfl) (fun _ _ _ h => h) (Or.inl ⟨by rfl, ?_⟩) hHeld ?_
          rotate_left
          · (intro w' hSw; have c0 := hSw.2.2.2.2.2.1; go_simp; try (with_reducible rfl))
          change wpAnyH _ _ _ _ _ _ _ (Act.put _ (some 108) _) _
          simp only [Act.put, List.setIfInBounds_toArray, List.set_cons_zero, List.set_cons_succ]
          refine wpAnyH_take (i := 16) (v := ?_) rfl (by kernel_rfl) (by kernel_rfl) (by kernel_rfl) (fun _ _ _ h => h) (Or.inl ⟨by rfl, ?_⟩) hHeld ?_
          rotate_left
          · (intro w' hSw; have c0 := hSw.2.2.2.2.2.2.1; go_simp; try (with_reducible rfl))
          change wpAnyH _ _ _ _ _ _ _ (Act.put _ (some 111) _) _
          simp only [Act.put, List.setIfInBounds_toArray, List.set_cons_zero, List.set_cons_succ]
          refine wpAnyH_take (i := 19) (v := ?_) rfl (by kernel_rfl) (by kernel_rfl) (by kernel_rfl) (fun _ _ _ h => h) (Or.inl ⟨by rfl, ?_⟩) hHeld ?_
          rotate_left
          · (intro w' hSw; have c0 := hSw.1.cell (k := 16) rfl; go_simp; try (with_reducible rfl))
          change wpAnyH _ _ _ _ _ _ _ (Act.put _ (some 114) _) _
          simp only [Act.put, List.setIfInBounds_toArray, List.set_cons_zero, List.set_cons_succ]
          refine wpAnyH_take (i := 22) (v := ?_) rfl (by kernel_rfl) (by kernel_rfl) (by kernel_rfl) (fun _ _ _ h => h) (Or.inl ⟨by rfl, ?_⟩) hHeld ?_
          rotate_left
          · (intro w' hSw; have c0 := hSw.2.2.2.2.2.1; go_simp; try (with_reducible rfl))
          change wpAnyH _ _ _ _ _ _ _ (Act.put _ (some 117) _) _
          simp only [Act.put, List.setIfInBounds_toArray, List.set_cons_zero, List.set_cons_succ]
          refine wpAnyH_take (i := 26) (v := ?_) rfl (by kernel_rfl) (by kernel_rfl) (by kernel_rfl) (fun _ _ _ h => h) (Or.inl ⟨by rfl, ?_⟩) hHeld ?_
          rotate_left
          · (intro w' hSw; have c0 := hSw.2.2.2.2.2.2.2.1; go_simp; try (with_reducible rfl))
          change wpAnyH _ _ _ _ _ _ _ (Act.put _ (some 121) _) _
          simp only [Act.put, List.setIfInBounds_toArray, List.set_cons_zero, List.set_cons_succ]
          refine wpAnyH_take (i := 31) (v := ?_) rfl (by kernel_rfl) (by kernel_rfl) (by kernel_rfl) (fun _ _ _ h => h) (Or.inl ⟨by rfl, ?_⟩) hHeld ?_
          rotate_left
          · (intro w' hSw; have c0 := hSw.1.cell (k := 2) rfl; go_simp; try (with_reducible rfl))
          change wpAnyH _ _ _ _ _ _ _ (Act.put _ (some 126) _) _
          simp only [Act.put, List.setIfInBounds_toArray, List.set_cons_zero, List.set_cons_succ]
          refine wpAnyH_take (i := 33) (v := ?_) rfl (by kernel_rfl) (by kernel_rfl) (by kernel_rfl) (fun _ _ _ h => h) (Or.inl ⟨by rfl, ?_⟩) hHeld ?_
          rotate_left
          · (intro w' hSw; go_simp; try (with_reducible rfl))
          change wpAnyH _ _ _ _ _ _ _ (Act.put _ (some 128) _) _
          simp only [Act.put, List.setIfInBounds_toArray, List.set_cons_zero, List.set_cons_succ]
          refine wpAnyH_take (i := 38) (v := ?_) rfl (by kernel_rfl) (by kernel_rfl) (by kernel_rfl) (fun _ _ _ h => h) (Or.inl ⟨by rfl, ?_⟩) hHeld ?_
          rotate_left
          · (intro w' hSw; go_simp; try (with_reducible rfl))
          change wpAnyH _ _ _ _ _ _ _ (Act.put _ (some 133) _) _
          simp only [Act.put, List.setIfInBounds_toArray, List.set_cons_zero, List.set_cons_succ]
          refine wpAnyH_take (i := 34) (v := ?_) rfl (by kernel_rfl) (by kernel_rfl) (by kernel_rfl) (fun _ _ _ h => h) (Or.inl ⟨by rfl, ?_⟩) hHeld ?_
          rotate_left
          · (intro w' hSw; have c0 := hSw.2.2.2.2.2.2.2.2.2.1; go_simp; try (with_reducible rfl))
          change wpAnyH _ _ _ _ _ _ _ (Act.put _ (some 129) _) _
          simp only [Act.put, List.setIfInBounds_toArray, List.set_cons_zero, List.set_cons_succ]
          refine wpAnyH_take (i := 39) (v := ?_) rfl (by kernel_rfl) (by kernel_rfl) (by kernel_rfl) (fun _ _ _ h => h) (Or.inl ⟨by rfl, ?_⟩) hHeld ?_
          rotate_left
          · (intro w' hSw; have c0 := hSw.2.2.2.2.2.2.2.2.2.2; go_simp; try (with_reducible rfl))
          change wpAnyH _ _ _ _ _ _ _ (Act.put _ (some 134) _) _
          simp only [Act.put, List.setIfInBounds_toArray, List.set_cons_zero, List.set_cons_succ]
          refine wpAnyH_take (i := 17) (v := ?_) rfl (by kernel_rfl) (by kernel_rfl) (by kernel_rfl) (fun _ _ _ h => h) (Or.inl ⟨by rfl, ?_⟩) hHeld ?_
          rotate_left
          · (intro w' hSw; go_simp; try (with_reducible rfl))
          change wpAnyH _ _ _ _ _ _ _ (Act.put _ (some 112) _) _
          simp only [Act.put, List.setIfInBounds_toArray, List.set_cons_zero, List.set_cons_succ]
          refine wpAnyH_take (i := 23) (v := ?_) rfl (by kernel_rfl) (by kernel_rfl) (by kernel_rfl) (fun _ _ _ h => h) (Or.inl ⟨by rfl, ?_⟩) hHeld ?_
          rotate_left
          · (intro w' hSw; go_simp; try (with_reducible rfl))
          change wpAnyH _ _ _ _ _ _ _ (Act.put _ (some 118) _) _
          simp only [Act.put, List.setIfInBounds_toArray, List.set_cons_zero, List.set_cons_succ]
          refine wpAnyH_take (i := 27) (v := ?_) rfl (by kernel_rfl) (by kernel_rfl) (by kernel_rfl) (fun _ _ _ h => h) (Or.inl ⟨by rfl, ?_⟩) hHeld ?_
          rotate_left
          · (intro w' hSw; go_simp; try (with_reducible rfl))
          change wpAnyH _ _ _ _ _ _ _ (Act.put _ (some 122) _) _
          simp only [Act.put, List.setIfInBounds_toArray, List.set_cons_zero, List.set_cons_succ]
          refine wpAnyH_take (i := 28) (v := ?_) rfl (by kernel_rfl) (by kernel_rfl) (by kernel_rfl) (fun _ _ _ h => h) (Or.inl ⟨by rfl, ?_⟩) hHeld ?_
          rotate_left
          · (intro w' hSw; go_simp; try (with_reducible rfl))
          change wpAnyH _ _ _ _ _ _ _ (Act.put _ (some 123) _) _
          simp only [Act.put, List.setIfInBounds_toArray, List.set_cons_zero, List.set_cons_succ]
          refine wpAnyH_ready (rs := [9]) (by kernel_rfl) (by simp) ?_
          refine AllReadyH.cons rfl (fun K hK => ?_) AllReadyH.nil
          rw [if_pos (by kernel_rfl)]
          go_simp
          refine (rbig64 A B s4 14 18 41 _ h4 (by decide) (by decide) (by decide) (by decide) (by decide) (by decide)).mono ?_
          rintro e w3 ⟨rfl, hb3⟩
          have hbl := (Below.lt_of64 hb3 hHeld.2.1)
          refine hK.out _ _ ⟨hHeld.1.belowAll hb3, hbl _ _ hHeld.2.1, hbl _ _ hHeld.2.2.1, hbl _ _ hHeld.2.2.2.1, hbl _ _ hHeld.2.2.2.2.1, hbl _ _ hHeld.2.2.2.2.2.1, hbl _ _ hHeld.2.2.2.2.2.2.1, hbl _ _ hHeld.2.2.2.2.2.2.2.1, hbl _ _ hHeld.2.2.2.2.2.2.2.2.1, hbl _ _ hHeld.2.2.2.2.2.2.2.2.2.1, hbl _ _ hHeld.2.2.2.2.2.2.2.2.2.2⟩ (fun hHeld => ?_)
          clear hK K
          have HBB3 := Lib.hid hb3
          clear hb3 hbl
          refine wpAnyH_take (i := 10) (v := ?_) rfl (by kernel_rfl) (by kernel_rfl) (by kernel_rfl) (fun _ _ _ h => h) (Or.inl ⟨by rfl, ?_⟩) hHeld ?_
          rotate_left
          · (intro w' hSw; go_simp; try (with_reducible rfl))
          change wpAnyH _ _ _ _ _ _ _ (Act.put _ (some 105) _) _
          simp only [Act.put, List.setIfInBounds_toArray, List.set_cons_zero, List.set_cons_succ]
          refine wpAnyH_take (i := 29) (v := ?_) rfl (by kernel_rfl) (by kernel_rfl) (by kernel_rfl) (fun _ _ _ h => h) (Or.inl ⟨by rfl, ?_⟩) hHeld ?_
          rotate_left
          · (intro w' hSw; go_simp; try (with_reducible rfl))
          change wpAnyH _ _ _ _ _ _ _ (Act.put _ (some 124) _) _
          simp only [Act.put, List.setIfInBounds_toArray, List.set_cons_zero, List.set_cons_succ]
          refine wpAnyH_take (i := 35) (v := ?_) rfl (by kernel_rfl) (by kernel_rfl) (by kernel_rfl) (fun _ _ _ h => h) (Or.inl ⟨by rfl, ?_⟩) hHeld ?_
          rotate_left
          · (intro w' hSw; go_simp; try (with_reducible rfl))
          change wpAnyH _ _ _ _ _ _ _ (Act.put _ (some 130) _) _
          simp only [Act.put, List.setIfInBounds_toArray, List.set_cons_zero, List.set_cons_succ]
          refine wpAnyH_take (i := 40) (v := ?_) rfl (by kernel_rfl) (by kernel_rfl) (by kernel_rfl) (fun _ _ _ h => h) (Or.inl ⟨by rfl, ?_⟩) hHeld ?_
          rotate_left
          · (intro w' hSw; go_simp; try (with_reducible rfl))
          change wpAnyH _ _ _ _ _ _ _ (Act.put _ (some 135) _) _
          simp only [Act.put, List.setIfInBounds_toArray, List.set_cons_zero, List.set_cons_succ]
          refine wpAnyH_ready (rs := [41]) (by kernel_rfl) (by simp) ?_
          refine AllReadyH.cons rfl (fun K hK => ?_) AllReadyH.nil
          rw [if_pos (by kernel_rfl)]
          go_simp
          refine hK.out _ _ hHeld (fun hHeld => ?_)
          clear hK K
          refine wpAnyH_done (by kernel_rfl) ?_ _
          go_upto_region 18 with fail
          rw [CH1.out, rts64]
          generalize htt : rt64 s7 (big3 64 s4 14 18 41) (ch64 s4 s5 s6) rk xk = tt at *
          have HTT := Lib.hid htt
          clear htt
          have hl3 := Below.lt_of64 HBB3.out HH17.out.2.1
          have hh18 : (fun w' : World => Row w' w.heap.size 53 (KdL64 A B) ∧ w'.cell? ⟨p, 0, none⟩ = some (.int .u64 ((s0 : Nat) : Int)) ∧ w'.cell? ⟨p, 1, none⟩ = some (.int .u64 ((s1 : Nat) : Int)) ∧ w'.cell? ⟨p, 2, none⟩ = some (.int .u64 ((s2 : Nat) : Int)) ∧ w'.cell? ⟨p, 3, none⟩ = some (.int .u64 ((s3 : Nat) : Int)) ∧ w'.cell? ⟨p, 4, none⟩ = some (.int .u64 ((s4 : Nat) : Int)) ∧ w'.cell? ⟨p, 5, none⟩ = some (.int .u64 ((s5 : Nat) : Int)) ∧ w'.cell? ⟨p, 6, none⟩ = some (.int .u64 ((s6 : Nat) : Int)) ∧ w'.cell? ⟨p, 7, none⟩ = some (.int .u64 ((s7 : Nat) : Int))) w3.drew := ⟨(HH17.out.1.belowAll HBB3.out).drewN 1, hl3 _ _ HH17.out.2.1, hl3 _ _ HH17.out.2.2.1, hl3 _ _ HH17.out.2.2.2.1, hl3 _ _ HH17.out.2.2.2.2.1, hl3 _ _ HH17.out.2.2.2.2.2.1, hl3 _ _ HH17.out.2.2.2.2.2.2.1, hl3 _ _ HH17.out.2.2.2.2.2.2.2.1, hl3 _ _ HH17.out.2.2.2.2.2.2.2.2.1⟩
          have hb3 : Below wr.heap.size wr w3 := ((Below.refl wr.heap.size wr).drew).trans HBB3.out
          have HH18 := Lib.hid hh18
          have HB3 := Lib.hid hb3
          clear hl3 hh18 hb3 HBB3
          refine wp_region_any (by kernel_rfl) ?_
          change wpAny _ _ _ _ _ _ _ (World.drew _)
          refine wpAny_of_held (S := (fun w' : World => Row w' w.heap.size 53 (KdL64 A B) ∧ w'.cell? ⟨p, 0, none⟩ = some (.int .u64 ((s0 : Nat) : Int)) ∧ w'.cell? ⟨p, 1, none⟩ = some (.int .u64 ((s1 : Nat) : Int)) ∧ w'.cell? ⟨p, 2, none⟩ = some (.int .u64 ((s2 : Nat) : Int)) ∧ w'.cell? ⟨p, 3, none⟩ = some (.int .u64 ((s3 : Nat) : Int)) ∧ w'.cell? ⟨p, 4, none⟩ = some (.int .u64 ((s4 : Nat) : Int)) ∧ w'.cell? ⟨p, 5, none⟩ = some (.int .u64 ((s5 : Nat) : Int)) ∧ w'.cell? ⟨p, 6, none⟩ = some (.int .u64 ((s6 : Nat) : Int)) ∧ w'.cell? ⟨p, 7, none⟩ = some (.int .u64 ((s7 : Nat) : Int)))) _ _ _ _ ?_
          have hHeld := HH18.out
          refine wpAnyH_take (i := 1) (v := ?_) rfl (by kernel_rfl) (by kernel_rfl) (by kernel_rfl) (fun _ _ _ h => h) (Or.inl ⟨by rfl, ?_⟩) hHeld ?_
          rotate_left
          · (intro w' hSw; go_simp; try (with_reducible rfl))
          change wpAnyH _ _ _ _ _ _ _ (Act.put _ (some 137) _) _
          simp only [Act.put, List.setIfInBounds_toArray, List.set_cons_zero, List.set_cons_succ]
          refine wpAnyH_take (i := 2) (v := ?_) rfl (by kernel_rfl) (by kernel_rfl) (by kernel_rfl) (fun _ _ _ h => h) (Or.inl ⟨by rfl, ?_⟩) hHeld ?_
          rotate_left
          · (intro w' hSw; go_simp; try (with_reducible rfl))
          change wpAnyH _ _ _ _ _ _ _ (Act.put _ (some 138) _) _
          simp only [Act.put, List.setIfInBounds_toArray, List.set_cons_zero, List.set_cons_succ]
          refine wpAnyH_take (i := 4) (v := ?_) rfl (by kernel_rfl) (by kernel_rfl) (by kernel_rfl) (fun _ _ _ h => h) (Or.inl ⟨by rfl, ?_⟩) hHeld ?_
          rotate_left
          · (intro w' hSw; go_simp; try (with_reducible rfl))
          change wpAnyH _ _ _ _ _ _ _ (Act.put _ (some 140) _) _
          simp only [Act.put, List.setIfInBounds_toArray, List.set_cons_zero, List.set_cons_succ]
          refine wpAnyH_take (i := 7) (v := ?_) rfl (by kernel_rfl) (by kernel_rfl) (by kernel_rfl) (fun _ _ _ h => h) (Or.inl ⟨by rfl, ?_⟩) hHeld ?_
          rotate_left
          · (intro w' hSw; go_simp; try (with_reducible rfl))
          change wpAnyH _ _ _ _ _ _ _ (Act.put _ (some 143) _) _
          simp only [Act.put, List.setIfInBounds_toArray, List.set_cons_zero, List.set_cons_succ]
          refine wpAnyH_take (i := 8) (v := ?_) rfl (by kernel_rfl) (by kernel_rfl) (by kernel_rfl) (fun _ _ _ h => h) (Or.inl ⟨by rfl, ?_⟩) hHeld ?_
          rotate_left
          · (intro w' hSw; go_simp; try (with_reducible rfl))
          change wpAnyH _ _ _ _ _ _ _ (Act.put _ (some 144) _) _
          simp only [Act.put, List.setIfInBounds_toArray, List.set_cons_zero, List.set_cons_succ]
          refine wpAnyH_take (i := 10) (v := ?_) rfl (by kernel_rfl) (by kernel_rfl) (by kernel_rfl) (fun _ _ _ h => h) (Or.inl ⟨by rfl, ?_⟩) hHeld ?_
          rotate_left
          · (intro w' hSw; go_simp; try (with_reducible rfl))
          change wpAnyH _ _ _ _ _ _ _ (Act.put _ (some 146) _) _
          simp only [Act.put, List.setIfInBounds_toArray, List.set_cons_zero, List.set_cons_succ]
          refine wpAnyH_take (i := 11) (v := ?_) rfl (by kernel_rfl) (by kernel_rfl) (by kernel_rfl) (fun _ _ _ h => h) (Or.inl ⟨by rfl, ?_⟩) hHeld ?_
          rotate_left
          · (intro w' hSw; go_simp; try (with_reducible rfl))
          change wpAnyH _ _ _ _ _ _ _ (Act.put _ (some 147) _) _
          simp only [Act.put, List.setIfInBounds_toArray, List.set_cons_zero, List.set_cons_succ]
          refine wpAnyH_take (i := 14) (v := ?_) rfl (by kernel_rfl) (by kernel_rfl) (by kernel_rfl) (fun _ _ _ h => h) (Or.inl ⟨by rfl, ?_⟩) hHeld ?_
          rotate_left
          · (intro w' hSw; go_simp; try (with_reducible rfl))
          change wpAnyH _ _ _ _ _ _ _ (Act.put _ (some 150) _) _
          simp only [Act.put, List.setIfInBounds_toArray, List.set_cons_zero, List.set_cons_succ]
          refine wpAnyH_take (i := 15) (v := ?_) rfl (by kernel_rfl) (by kernel_rfl) (by kernel_rfl) (fun _ _ _ h => h) (Or.inl ⟨by rfl, ?_⟩) hHeld ?_
          rotate_left
          · (intro w' hSw; go_simp; try (with_reducible rfl))
          change wpAnyH _ _ _ _ _ _ _ (Act.put _ (some 151) _) _
          simp only [Act.put, List.setIfInBounds_toArray, List.set_cons_zero, List.set_cons_succ]
          refine wpAnyH_take (i := 17) (v := ?_) rfl (by kernel_rfl) (by kernel_rfl) (by kernel_rfl) (fun _ _ _ h => h) (Or.inl ⟨by rfl, ?_⟩) hHeld ?_
          rotate_left
          · (intro w' hSw; go_simp; try (with_reducible rfl))
          change wpAnyH _ _ _ _ _ _ _ (Act.put _ (some 153) _) _
          simp only [Act.put, List.setIfInBounds_toArray, List.set_cons_zero, List.set_cons_succ]
          refine wpAnyH_take (i := 18) (v := ?_) rfl (by kernel_rfl) (by kernel_rfl) (by kernel_rfl) (fun _ _ _ h => h) (Or.inl ⟨by rfl, ?_⟩) hHeld ?_
          rotate_left
          · (intro w' hSw; go_simp; try (with_reducible rfl))
          change wpAnyH _ _ _ _ _ _ _ (Act.put _ (some 154) _) _
          simp only [Act.put, List.setIfInBounds_toArray, List.set_cons_zero, List.set_cons_succ]
          refine wpAnyH_take (i := 22) (v := ?_) rfl (by kernel_rfl) (by kernel_rfl) (by kernel_rfl) (fun _ _ _ h => h) (Or.inl ⟨by rfl, ?_⟩) hHeld ?_
          rotate_left
          · (intro w' hSw; go_simp; try (with_reducible rfl))
          change wpAnyH _ _ _ _ _ _ _ (Act.put _ (some 158) _) _
          simp only [Act.put, List.setIfInBounds_toArray, List.set_cons_zero, List.set_cons_succ]
          refine wpAnyH_take (i := 23) (v := ?_) rfl (by kernel_rfl) (by kernel_rfl) (by kernel_rfl) (fun _ _ _ h => h) (Or.inl ⟨by rfl, ?_⟩) hHeld ?_
          rotate_left
          · (intro w' hSw; go_simp; try (with_reducible rfl))
          change wpAnyH _ _ _ _ _ _ _ (Act.put _ (some 159) _) _
          simp only [Act.put, List.setIfInBounds_toArray, List.set_cons_zero, List.set_cons_succ]
          refine wpAnyH_take (i := 25) (v := ?_) rfl (by kernel_rfl) (by kernel_rfl) (by kernel_rfl) (fun _ _ _ h => h) (Or.inl ⟨by rfl, ?_⟩) hHeld ?_
          rotate_left
          · (intro w' hSw; go_simp; try (with_reducible rfl))
          change wpAnyH _ _ _ _ _ _ _ (Act.put _ (some 161) _) _
          simp only [Act.put, List.setIfInBounds_toArray, List.set_cons_zero, List.set_cons_succ]
          refine wpAnyH_take (i := 26) (v := ?_) rfl (by kernel_rfl) (by kernel_rfl) (by kernel_rfl) (fun _ _ _ h => h) (Or.inl ⟨by rfl, ?_⟩) hHeld ?_
          rotate_left
          · (intro w' hSw; go_simp; try (with_reducible rfl))
          change wpAnyH _ _ _ _ _ _ _ (Act.put _ (some 162) _) _
          simp only [Act.put, List.setIfInBounds_toArray, List.set_cons_zero, List.set_cons_succ]
          refine wpAnyH_take (i := 0) (v := .agg (KdL64 A B).toArray) rfl (by kernel_rfl) (by kernel_rfl) (by kernel_rfl) (fun _ _ _ h => h) (yieldsIf_load_mid (by rfl) 53 (.tmp 3) rfl w.heap.size 0 rfl (KdL64 A B) _ (fun w' hSw => hSw.1.range) (by rfl) rfl KI.out) hHeld ?_
          change wpAnyH _ _ _ _ _ _ _ (Act.put _ (some 136) _) _
          simp only [Act.put, List.setIfInBounds_toArray, List.set_cons_zero, List.set_cons_succ]
          refine wpAnyH_take (i := 5) (v := .agg ([.int .i64 28, .int .i64 34, .int .i64 39]).toArray) rfl (by kernel_rfl) (by kernel_rfl) (by kernel_rfl) (fun _ _ _ h => h) (yieldsIf_load_mid (by rfl) 50 (.tmp 140) rfl w.heap.size 3 rfl ([.int .i64 28, .int .i64 34, .int .i64 39]) _ (fun w' hSw => rowmid64 hSw.1 3 rfl) (by rfl) rfl TI.out) hHeld ?_
          change wpAnyH _ _ _ _ _ _ _ (Act.put _ (some 141) _) _
          simp only [Act.put, List.setIfInBounds_toArray, List.set_cons_zero, List.set_cons_succ]
          refine wpAnyH_take (i := 3) (v := ?_) rfl (by kernel_rfl) (by kernel_rfl) (by kernel_rfl) (fun _ _ _ h => h) (Or.inl ⟨by rfl, ?_⟩) hHeld ?_
          rotate_left
          · (intro w' hSw; have c0 := hSw.2.1; go_simp; try (with_reducible rfl))
          change wpAnyH _ _ _ _ _ _ _ (Act.put _ (some 139) _) _
          simp only [Act.put, List.setIfInBounds_toArray, List.set_cons_zero, List.set_cons_succ]
          refine wpAnyH_take (i := 9) (v := ?_) rfl (by kernel_rfl) (by kernel_rfl) (by kernel_rfl) (fun _ _ _ h => h) (Or.inl ⟨by rfl, ?_⟩) hHeld ?_
          rotate_left
          · (intro w' hSw; have c0 := hSw.2.1; go_simp; try (with_reducible rfl))
          change wpAnyH _ _ _ _ _ _ _ (Act.put _ (some 145) _) _
          simp only [Act.put, List.setIfInBounds_toArray, List.set_cons_zero, List.set_cons_succ]
          refine wpAnyH_take (i := 12) (v := ?_) rfl (by kernel_rfl) (by kernel_rfl) (by kernel_rfl) (fun _ _ _ h => h) (Or.inl ⟨by rfl, ?_⟩) hHeld ?_
          rotate_left
          · (intro w' hSw; have c0 := hSw.2.2.1; go_simp; try (with_reducible rfl))
          change wpAnyH _ _ _ _ _ _ _ (Act.put _ (some 148) _) _
          simp only [Act.put, List.setIfInBounds_toArray, List.set_cons_zero, List.set_cons_succ]
          refine wpAnyH_take (i := 16) (v := ?_) rfl (by kernel_rfl) (by kernel_rfl) (by kernel_rfl) (fun _ _ _ h => h) (Or.inl ⟨by rfl, ?_⟩) hHeld ?_
          rotate_left
          · (intro w' hSw; have c0 := hSw.2.1; go_simp; try (with_reducible rfl))
          change wpAnyH _ _ _ _ _ _ _ (Act.put _ (some 152) _) _
          simp only [Act.put, List.setIfInBounds_toArray, List.set_cons_zero, List.set_cons_succ]
          refine wpAnyH_take (i := 19) (v := ?_) rfl (by kernel_rfl) (by kernel_rfl) (by kernel_rfl) (fun _ _ _ h => h) (Or.inl ⟨by rfl, ?_⟩) hHeld ?_
          rotate_left
          · (intro w' hSw; have c0 := hSw.2.2.2.1; go_simp; try (with_reducible rfl))
          change wpAnyH _ _ _ _ _ _ _ (Act.put _ (some 155) _) _
          simp only [Act.put, List.setIfInBounds_toArray, List.set_cons_zero, List.set_cons_succ]
          refine wpAnyH_take (i := 24) (v := ?_) rfl (by kernel_rfl) (by kernel_rfl) (by kernel_rfl) (fun _ _ _ h => h) (Or.inl ⟨by rfl, ?_⟩) hHeld ?_
          rotate_left
          · (intro w' hSw; have c0 := hSw.2.2.1; go_simp; try (with_reducible rfl))
          change wpAnyH _ _ _ _ _ _ _ (Act.put _ (some 160) _) _
          simp only [Act.put, List.setIfInBounds_toArray, List.set_cons_zero, List.set_cons_succ]
          refine wpAnyH_take (i := 27) (v := ?_) rfl (by kernel_rfl) (by kernel_rfl) (by kernel_rfl) (fun _ _ _ h => h) (Or.inl ⟨by rfl, ?_⟩) hHeld ?_
          rotate_left
          · (intro w' hSw; have c0 := hSw.2.2.2.1; go_simp; try (with_reducible rfl))
          change wpAnyH _ _ _ _ _ _ _ (Act.put _ (some 163) _) _
          simp only [Act.put, List.setIfInBounds_toArray, List.set_cons_zero, List.set_cons_succ]
          refine wpAnyH_take (i := 13) (v := ?_) rfl (by kernel_rfl) (by kernel_rfl) (by kernel_rfl) (fun _ _ _ h => h) (Or.inl ⟨by rfl, ?_⟩) hHeld ?_
          rotate_left
          · (intro w' hSw; go_simp; try (with_reducible rfl))
          change wpAnyH _ _ _ _ _ _ _ (Act.put _ (some 149) _) _
          simp only [Act.put, List.setIfInBounds_toArray, List.set_cons_zero, List.set_cons_succ]
          refine wpAnyH_take (i := 20) (v := ?_) rfl (by kernel_rfl) (by kernel_rfl) (by kernel_rfl) (fun _ _ _ h => h) (Or.inl ⟨by rfl, ?_⟩) hHeld ?_
          rotate_left
          · (intro w' hSw; go_simp; try (with_reducible rfl))
          change wpAnyH _ _ _ _ _ _ _ (Act.put _ (some 156) _) _
          simp only [Act.put, List.setIfInBounds_toArray, List.set_cons_zero, List.set_cons_succ]
          refine wpAnyH_take (i := 21) (v := ?_) rfl (by kernel_rfl) (by kernel_rfl) (by kernel_rfl) (fun _ _ _ h => h) (Or.inl ⟨by rfl, ?_⟩) hHeld ?_
          rotate_left
          · (intro w' hSw; go_simp; try (with_reducible rfl))
          change wpAnyH _ _ _ _ _ _ _ (Act.put _ (some 157) _) _
          simp only [Act.put, List.setIfInBounds_toArray, List.set_cons_zero, List.set_cons_succ]
          refine wpAnyH_take (i := 28) (v := ?_) rfl (by kernel_rfl) (by kernel_rfl) (by kernel_rfl) (fun _ _ _ h => h) (Or.inl ⟨by rfl, ?_⟩) hHeld ?_
          rotate_left
          · (intro w' hSw; go_simp; try (with_reducible rfl))
          change wpAnyH _ _ _ _ _ _ _ (Act.put _ (some 164) _) _
          simp only [Act.put, List.setIfInBounds_toArray, List.set_cons_zero, List.set_cons_succ]
          refine wpAnyH_take (i := 29) (v := ?_) rfl (by kernel_rfl) (by kernel_rfl) (by kernel_rfl) (fun _ _ _ h => h) (Or.inl ⟨by rfl, ?_⟩) hHeld ?_
          rotate_left
          · (intro w' hSw; go_simp; try (with_reducible rfl))
          change wpAnyH _ _ _ _ _ _ _ (Act.put _ (some 165) _) _
          simp only [Act.put, List.setIfInBounds_toArray, List.set_cons_zero, List.set_cons_succ]
          refine wpAnyH_ready (rs := [6]) (by kernel_rfl) (by simp) ?_
          refine AllReadyH.cons rfl (fun K hK => ?_) AllReadyH.nil
          rw [if_pos (by kernel_rfl)]
          go_simp
          refine (rbig64 A B s0 28 34 39 _ h0 (by decide) (by decide) (by decide) (by decide) (by decide) (by decide)).mono ?_
          rintro e w4 ⟨rfl, hb4⟩
          have hbl := (Below.lt_of64 hb4 hHeld.2.1)
          refine hK.out _ _ ⟨hHeld.1.belowAll hb4, hbl _ _ hHeld.2.1, hbl _ _ hHeld.2.2.1, hbl _ _ hHeld.2.2.2.1, hbl _ _ hHeld.2.2.2.2.1, hbl _ _ hHeld.2.2.2.2.2.1, hbl _ _ hHeld.2.2.2.2.2.2.1, hbl _ _ hHeld.2.2.2.2.2.2.2.1, hbl _ _ hHeld.2.2.2.2.2.2.2.2⟩ (fun hHeld => ?_)
          clear hK K
          have HBB4 := Lib.hid hb4
          clear hb4 hbl
          refine wpAnyH_take (i := 30) (v := ?_) rfl (by kernel_rfl) (by kernel_rfl) (by kernel_rfl) (fun _ _ _ h => h) (Or.inl ⟨by rfl, ?_⟩) hHeld ?_
          rotate_left
          · (intro w' hSw; go_simp; try (with_reducible rfl))
          change wpAnyH _ _ _ _ _ _ _ (Act.put _ (some 166) _) _
          simp only [Act.put, List.setIfInBounds_toArray, List.set_cons_zero, List.set_cons_succ]
          refine wpAnyH_ready (rs := [31]) (by kernel_rfl) (by simp) ?_
          refine AllReadyH.cons rfl (fun K hK => ?_) AllReadyH.nil
          rw [if_pos (by kernel_rfl)]
          go_simp
          refine hK.out _ _ hHeld (fun hHeld => ?_)
          clear hK K
          refine wpAnyH_done (by kernel_rfl) ?_ _
          go_upto_region 19 with fail
          rw [MJ1.out, rus64]
          generalize huu : ru64 (big3 64 s0 28 34 39) (maj64 s0 s1 s2) = uu at *
          have HUU := Lib.hid huu
          clear huu
          have hl4 := Below.lt_of64 HBB4.out HH18.out.2.1
          have hh19 : (fun w' : World => Row w' w.heap.size 53 (KdL64 A B) ∧ w'.cell? ⟨p, 0, none⟩ = some (.int .u64 ((s0 : Nat) : Int)) ∧ w'.cell? ⟨p, 1, none⟩ = some (.int .u64 ((s1 : Nat) : Int)) ∧ w'.cell? ⟨p, 2, none⟩ = some (.int .u64 ((s2 : Nat) : Int)) ∧ w'.cell? ⟨p, 3, none⟩ = some (.int .u64 ((s3 : Nat) : Int)) ∧ w'.cell? ⟨p, 4, none⟩ = some (.int .u64 ((s4 : Nat) : Int)) ∧ w'.cell? ⟨p, 5, none⟩ = some (.int .u64 ((s5 : Nat) : Int)) ∧ w'.cell? ⟨p, 6, none⟩ = some (.int .u64 ((s6 : Nat) : Int)) ∧ w'.cell? ⟨p, 7, none⟩ = some (.int .u64 ((s7 : Nat) : Int))) w4.drew := ⟨(HH18.out.1.belowAll HBB4.out).drewN 1, hl4 _ _ HH18.out.2.1, hl4 _ _ HH18.out.2.2.1, hl4 _ _ HH18.out.2.2.2.1, hl4 _ _ HH18.out.2.2.2.2.1, hl4 _ _ HH18.out.2.2.2.2.2.1, hl4 _ _ HH18.out.2.2.2.2.2.2.1, hl4 _ _ HH18.out.2.2.2.2.2.2.2.1, hl4 _ _ HH18.out.2.2.2.2.2.2.2.2⟩
          have hb4 : Below wr.heap.size wr w4 := HB3.out.trans ((((Below.refl w3.heap.size w3).drew).trans HBB4.out).mono HB3.out.size)
          have hrow5 : Row w4 w.heap.size 53 (KdL64 A B) := HH18.out.1.belowAll HBB4.out
          have hc5 : w4.cell? ⟨p, 0, none⟩ = some (.int .u64 ((s0 : Nat) : Int)) := hl4 _ _ HH18.out.2.1
          have HH19 := Lib.hid hh19
          have HB4 := Lib.hid hb4
          have HROW5 := Lib.hid hrow5
          have HC5 := Lib.hid hc5
          clear hl4 hh19 hb4 hrow5 hc5 HBB4
          refine wp_region_any (by kernel_rfl) ?_
          change wpAny _ _ _ _ _ _ _ (World.drew _)
          refine wpAny_of_held (S := (fun w' : World => Row w' w.heap.size 53 (KdL64 A B) ∧ w'.cell? ⟨p, 0, none⟩ = some (.int .u64 ((s0 : Nat) : Int)) ∧ w'.cell? ⟨p, 1, none⟩ = some (.int .u64 ((s1 : Nat) : Int)) ∧ w'.cell? ⟨p, 2, none⟩ = some (.int .u64 ((s2 : Nat) : Int)) ∧ w'.cell? ⟨p, 3, none⟩ = some (.int .u64 ((s3 : Nat) : Int)) ∧ w'.cell? ⟨p, 4, none⟩ = some (.int .u64 ((s4 : Nat) : Int)) ∧ w'.cell? ⟨p, 5, none⟩ = some (.int .u64 ((s5 : Nat) : Int)) ∧ w'.cell? ⟨p, 6, none⟩ = some (.int .u64 ((s6 : Nat) : Int)) ∧ w'.cell? ⟨p, 7, none⟩ = some (.int .u64 ((s7 : Nat) : Int)))) _ _ _ _ ?_
          have hHeld := HH19.out
          refine wpAnyH_take (i := 0) (v := ?_) rfl (by kernel_rfl) (by kernel_rfl) (by kernel_rfl) (fun _ _ _ h => h) (Or.inl ⟨by rfl, ?_⟩) hHeld ?_
          rotate_left
          · (intro w' hSw; go_simp; try (with_reducible rfl))
          change wpAnyH _ _ _ _ _ _ _ (Act.put _ (some 167) _) _
          simp only [Act.put, List.setIfInBounds_toArray, List.set_cons_zero, List.set_cons_succ]
          refine wpAnyH_take (i := 1) (v := ?_) rfl (by kernel_rfl) (by kernel_rfl) (by kernel_rfl) (fun _ _ _ h => h) (Or.inl ⟨by rfl, ?_⟩) hHeld ?_
          rotate_left
          · (intro w' hSw; go_simp; try (with_reducible rfl))
          change wpAnyH _ _ _ _ _ _ _ (Act.put _ (some 168) _) _
          simp only [Act.put, List.setIfInBounds_toArray, List.set_cons_zero, List.set_cons_succ]
          refine wpAnyH_take (i := 2) (v := ?_) rfl (by kernel_rfl) (by kernel_rfl) (by kernel_rfl) (fun _ _ _ h => h) (Or.inl ⟨by rfl, ?_⟩) hHeld ?_
          rotate_left
          · (intro w' hSw; go_simp; try (with_reducible rfl))
          change wpAnyH _ _ _ _ _ _ _ (Act.put _ (some 169) _) _
          simp only [Act.put, List.setIfInBounds_toArray, List.set_cons_zero, List.set_cons_succ]
          refine wpAnyH_take (i := 3) (v := ?_) rfl (by kernel_rfl) (by kernel_rfl) (by kernel_rfl) (fun _ _ _ h => h) (Or.inl ⟨by rfl, ?_⟩) hHeld ?_
          rotate_left
          · (intro w' hSw; go_simp; try (with_reducible rfl))
          change wpAnyH _ _ _ _ _ _ _ (Act.put _ (some 170) _) _
          simp only [Act.put, List.setIfInBounds_toArray, List.set_cons_zero, List.set_cons_succ]
          refine wpAnyH_take (i := 6) (v := ?_) rfl (by kernel_rfl) (by kernel_rfl) (by kernel_rfl) (fun _ _ _ h => h) (Or.inl ⟨by rfl, ?_⟩) hHeld ?_
          rotate_left
          · (intro w' hSw; go_simp; try (with_reducible rfl))
          change wpAnyH _ _ _ _ _ _ _ (Act.put _ (some 173) _) _
          simp only [Act.put, List.setIfInBounds_toArray, List.set_cons_zero, List.set_cons_succ]
          refine wpAnyH_take (i := 7) (v := ?_) rfl (by kernel_rfl) (by kernel_rfl) (by kernel_rfl) (fun _ _ _ h => h) (Or.inl ⟨by rfl, ?_⟩) hHeld ?_
          rotate_left
          · (intro w' hSw; go_simp; try (with_reducible rfl))
          change wpAnyH _ _ _ _ _ _ _ (Act.put _ (some 174) _) _
          simp only [Act.put, List.setIfInBounds_toArray, List.set_cons_zero, List.set_cons_succ]
          refine wpAnyH_take (i := 9) (v := ?_) rfl (by kernel_rfl) (by kernel_rfl) (by kernel_rfl) (fun _ _ _ h => h) (Or.inl ⟨by rfl, ?_⟩) hHeld ?_
          rotate_left
          · (intro w' hSw; go_simp; try (with_reducible rfl))
          change wpAnyH _ _ _ _ _ _ _ (Act.put _ (some 176) _) _
          simp only [Act.put, List.setIfInBounds_toArray, List.set_cons_zero, List.set_cons_succ]
          refine wpAnyH_take (i := 10) (v := ?_) rfl (by kernel_rfl) (by kernel_rfl) (by kernel_rfl) (fun _ _ _ h => h) (Or.inl ⟨by rfl, ?_⟩) hHeld ?_
          rotate_left
          · (intro w' hSw; go_simp; try (with_reducible rfl))
          change wpAnyH _ _ _ _ _ _ _ (Act.put _ (some 177) _) _
          simp only [Act.put, List.setIfInBounds_toArray, List.set_cons_zero, List.set_cons_succ]
          refine wpAnyH_take (i := 12) (v := ?_) rfl (by kernel_rfl) (by kernel_rfl) (by kernel_rfl) (fun _ _ _ h => h) (Or.inl ⟨by rfl, ?_⟩) hHeld ?_
          rotate_left
          · (intro w' hSw; go_simp; try (with_reducible rfl))
          change wpAnyH _ _ _ _ _ _ _ (Act.put _ (some 179) _) _
          simp only [Act.put, List.setIfInBounds_toArray, List.set_cons_zero, List.set_cons_succ]
          refine wpAnyH_take (i := 13) (v := ?_) rfl (by kernel_rfl) (by kernel_rfl) (by kernel_rfl) (fun _ _ _ h => h) (Or.inl ⟨by rfl, ?_⟩) hHeld ?_
          rotate_left
          · (intro w' hSw; go_simp; try (with_reducible rfl))
          change wpAnyH _ _ _ _ _ _ _ (Act.put _ (some 180) _) _
          simp only [Act.put, List.setIfInBounds_toArray, List.set_cons_zero, List.set_cons_succ]
          refine wpAnyH_take (i := 15) (v := ?_) rfl (by kernel_rfl) (by kernel_rfl) (by kernel_rfl) (fun _ _ _ h => h) (Or.inl ⟨by rfl, ?_⟩) hHeld ?_
          rotate_left
          · (intro w' hSw; go_simp; try (with_reducible rfl))
          change wpAnyH _ _ _ _ _ _ _ (Act.put _ (some 182) _) _
          simp only [Act.put, List.setIfInBounds_toArray, List.set_cons_zero, List.set_cons_succ]
          refine wpAnyH_take (i := 16) (v := ?_) rfl (by kernel_rfl) (by kernel_rfl) (by kernel_rfl) (fun _ _ _ h => h) (Or.inl ⟨by rfl, ?_⟩) hHeld ?_
          rotate_left
          · (intro w' hSw; go_simp; try (with_reducible rfl))
          change wpAnyH _ _ _ _ _ _ _ (Act.put _ (some 183) _) _
          simp only [Act.put, List.setIfInBounds_toArray, List.set_cons_zero, List.set_cons_succ]
          refine wpAnyH_take (i := 18) (v := ?_) rfl (by kernel_rfl) (by kernel_rfl) (by kernel_rfl) (fun _ _ _ h => h) (Or.inl ⟨by rfl, ?_⟩) hHeld ?_
          rotate_left
          · (intro w' hSw; go_simp; try (with_reducible rfl))
          change wpAnyH _ _ _ _ _ _ _ (Act.put _ (some 185) _) _
          simp only [Act.put, List.setIfInBounds_toArray, List.set_cons_zero, List.set_cons_succ]
          refine wpAnyH_take (i := 20) (v := ?_) rfl (by kernel_rfl) (by kernel_rfl) (by kernel_rfl) (fun _ _ _ h => h) (Or.inl ⟨by rfl, ?_⟩) hHeld ?_
          rotate_left
          · (intro w' hSw; go_simp; try (with_reducible rfl))
          change wpAnyH _ _ _ _ _ _ _ (Act.put _ (some 187) _) _
          simp only [Act.put, List.setIfInBounds_toArray, List.set_cons_zero, List.set_cons_succ]
          refine wpAnyH_take (i := 23) (v := ?_) rfl (by kernel_rfl) (by kernel_rfl) (by kernel_rfl) (fun _ _ _ h => h) (Or.inl ⟨by rfl, ?_⟩) hHeld ?_
          rotate_left
          · (intro w' hSw; go_simp; try (with_reducible rfl))
          change wpAnyH _ _ _ _ _ _ _ (Act.put _ (some 190) _) _
          simp only [Act.put, List.setIfInBounds_toArray, List.set_cons_zero, List.set_cons_succ]
          refine wpAnyH_take (i := 24) (v := ?_) rfl (by kernel_rfl) (by kernel_rfl) (by kernel_rfl) (fun _ _ _ h => h) (Or.inl ⟨by rfl, ?_⟩) hHeld ?_
          rotate_left
          · (intro w' hSw; go_simp; try (with_reducible rfl))
          change wpAnyH _ _ _ _ _ _ _ (Act.put _ (some 191) _) _
          simp only [Act.put, List.setIfInBounds_toArray, List.set_cons_zero, List.set_cons_succ]
          refine wpAnyH_take (i := 26) (v := ?_) rfl (by kernel_rfl) (by kernel_rfl) (by kernel_rfl) (fun _ _ _ h => h) (Or.inl ⟨by rfl, ?_⟩) hHeld ?_
          rotate_left
          · (intro w' hSw; go_simp; try (with_reducible rfl))
          change wpAnyH _ _ _ _ _ _ _ (Act.put _ (some 193) _) _
          simp only [Act.put, List.setIfInBounds_toArray, List.set_cons_zero, List.set_cons_succ]
          refine wpAnyH_take (i := 27) (v := ?_) rfl (by kernel_rfl) (by kernel_rfl) (by kernel_rfl) (fun _ _ _ h => h) (Or.inl ⟨by rfl, ?_⟩) hHeld ?_
          rotate_left
          · (intro w' hSw; go_simp; try (with_reducible rfl))
          change wpAnyH _ _ _ _ _ _ _ (Act.put _ (some 194) _) _
          simp only [Act.put, List.setIfInBounds_toArray, List.set_cons_zero, List.set_cons_succ]
          refine wpAnyH_take (i := 29) (v := ?_) rfl (by kernel_rfl) (by kernel_rfl) (by kernel_rfl) (fun _ _ _ h => h) (Or.inl ⟨by rfl, ?_⟩) hHeld ?_
          rotate_left
          · (intro w' hSw; go_simp; try (with_reducible rfl))
          change wpAnyH _ _ _ _ _ _ _ (Act.put _ (some 196) _) _
          simp only [Act.put, List.setIfInBounds_toArray, List.set_cons_zero, List.set_cons_succ]
          refine wpAnyH_take (i := 30) (v := ?_) rfl (by kernel_rfl) (by kernel_rfl) (by kernel_rfl) (fun _ _ _ h => h) (Or.inl ⟨by rfl, ?_⟩) hHeld ?_
          rotate_left
          · (intro w' hSw; go_simp; try (with_reducible rfl))
          change wpAnyH _ _ _ _ _ _ _ (Act.put _ (some 197) _) _
          simp only [Act.put, List.setIfInBounds_toArray, List.set_cons_zero, List.set_cons_succ]
          refine wpAnyH_take (i := 4) (v := ?_) rfl (by kernel_rfl) (by kernel_rfl) (by kernel_rfl) (fun _ _ _ h => h) (Or.inl ⟨by rfl, ?_⟩) hHeld ?_
          rotate_left
          · (intro w' hSw; have c0 := hSw.1.cell (k := 16) rfl; go_simp; try (with_reducible rfl))
          change wpAnyH _ _ _ _ _ _ _ (Act.put _ (some 171) _) _
          simp only [Act.put, List.setIfInBounds_toArray, List.set_cons_zero, List.set_cons_succ]
          refine wpAnyH_take (i := 8) (v := ?_) rfl (by kernel_rfl) (by kernel_rfl) (by kernel_rfl) (fun _ _ _ h => h) (Or.inl ⟨by rfl, ?_⟩) hHeld ?_
          rotate_left
          · (intro w' hSw; have c0 := hSw.2.1; go_simp; try (with_reducible rfl))
          change wpAnyH _ _ _ _ _ _ _ (Act.put _ (some 175) _) _
          simp only [Act.put, List.setIfInBounds_toArray, List.set_cons_zero, List.set_cons_succ]
          refine wpAnyH_take (i := 11) (v := ?_) rfl (by kernel_rfl) (by kernel_rfl) (by kernel_rfl) (fun _ _ _ h => h) (Or.inl ⟨by rfl, ?_⟩) hHeld ?_
          rotate_left
          · (intro w' hSw; have c0 := hSw.2.2.1; go_simp; try (with_reducible rfl))
          change wpAnyH _ _ _ _ _ _ _ (Act.put _ (some 178) _) _
          simp only [Act.put, List.setIfInBounds_toArray, List.set_cons_zero, List.set_cons_succ]
          refine wpAnyH_take (i := 14) (v := ?_) rfl (by kernel_rfl) (by kernel_rfl) (by kernel_rfl) (fun _ _ _ h => h) (Or.inl ⟨by rfl, ?_⟩) hHeld ?_
          rotate_left
          · (intro w' hSw; have c0 := hSw.2.2.2.1; go_simp; try (with_reducible rfl))
          change wpAnyH _ _ _ _ _ _ _ (Act.put _ (some 181) _) _
          simp only [Act.put, List.setIfInBounds_toArray, List.set_cons_zero, List.set_cons_succ]
          refine wpAnyH_take (i := 17) (v := ?_) rfl (by kernel_rfl) (by kernel_rfl) (by kernel_rfl) (fun _ _ _ h => h) (Or.inl ⟨by rfl, ?_⟩) hHeld ?_
          rotate_left
          · (intro w' hSw; have c0 := hSw.2.2.2.2.1; go_simp; try (with_reducible rfl))
          change wpAnyH _ _ _ _ _ _ _ (Act.put _ (some 184) _) _
          simp only [Act.put, List.setIfInBounds_toArray, List.set_cons_zero, List.set_cons_succ]
          refine wpAnyH_take (i := 21) (v := ?_) rfl (by kernel_rfl) (by kernel_rfl) (by kernel_rfl) (fun _ _ _ h => h) (Or.inl ⟨by rfl, ?_⟩) hHeld ?_
          rotate_left
          · (intro w' hSw; have c0 := hSw.1.cell (k := 16) rfl; go_simp; try (with_reducible rfl))
          change wpAnyH _ _ _ _ _ _ _ (Act.put _ (some 188) _) _
          simp only [Act.put, List.setIfInBounds_toArray, List.set_cons_zero, List.set_cons_succ]
          refine wpAnyH_take (i := 25) (v := ?_) rfl (by kernel_rfl) (by kernel_rfl) (by kernel_rfl) (fun _ _ _ h => h) (Or.inl ⟨by rfl, ?_⟩) hHeld ?_
          rotate_left
          · (intro w' hSw; have c0 := hSw.2.2.2.2.2.1; go_simp; try (with_reducible rfl))
          change wpAnyH _ _ _ _ _ _ _ (Act.put _ (some 192) _) _
          simp only [Act.put, List.setIfInBounds_toArray, List.set_cons_zero, List.set_cons_succ]
          refine wpAnyH_take (i := 28) (v := ?_) rfl (by kernel_rfl) (by kernel_rfl) (by kernel_rfl) (fun _ _ _ h => h) (Or.inl ⟨by rfl, ?_⟩) hHeld ?_
          rotate_left
          · (intro w' hSw; have c0 := hSw.2.2.2.2.2.2.1; go_simp; try (with_reducible rfl))
          change wpAnyH _ _ _ _ _ _ _ (Act.put _ (some 195) _) _
          simp only [Act.put, List.setIfInBounds_toArray, List.set_cons_zero, List.set_cons_succ]
          refine wpAnyH_take (i := 31) (v := ?_) rfl (by kernel_rfl) (by kernel_rfl) (by kernel_rfl) (fun _ _ _ h => h) (Or.inl ⟨by rfl, ?_⟩) hHeld ?_
          rotate_left
          · (intro w' hSw; have c0 := hSw.2.2.2.2.2.2.2.1; go_simp; try (with_reducible rfl))
          change wpAnyH _ _ _ _ _ _ _ (Act.put _ (some 198) _) _
          simp only [Act.put, List.setIfInBounds_toArray, List.set_cons_zero, List.set_cons_succ]
          refine wpAnyH_take (i := 5) (v := ?_) rfl (by kernel_rfl) (by kernel_rfl) (by kernel_rfl) (fun _ _ _ h => h) (Or.inl ⟨by rfl, ?_⟩) hHeld ?_
          rotate_left
          · (intro w' hSw; go_simp; try (with_reducible rfl))
          change wpAnyH _ _ _ _ _ _ _ (Act.put _ (some 172) _) _
          simp only [Act.put, List.setIfInBounds_toArray, List.set_cons_zero, List.set_cons_succ]
          refine wpAnyH_take (i := 19) (v := ?_) rfl (by kernel_rfl) (by kernel_rfl) (by kernel_rfl) (fun _ _ _ h => h) (Or.inl ⟨by rfl, ?_⟩) hHeld ?_
          rotate_left
          · (intro w' hSw; go_simp; try (with_reducible rfl))
          change wpAnyH _ _ _ _ _ _ _ (Act.put _ (some 186) _) _
          simp only [Act.put, List.setIfInBounds_toArray, List.set_cons_zero, List.set_cons_succ]
          refine wpAnyH_take (i := 22) (v := ?_) rfl (by kernel_rfl) (by kernel_rfl) (by kernel_rfl) (fun _ _ _ h => h) (Or.inl ⟨by rfl, ?_⟩) hHeld ?_
          rotate_left
          · (intro w' hSw; go_simp; try (with_reducible rfl))
          change wpAnyH _ _ _ _ _ _ _ (Act.put _ (some 189) _) _
          simp only [Act.put, List.setIfInBounds_toArray, List.set_cons_zero, List.set_cons_succ]
          refine wpAnyH_ready (rs := [32]) (by kernel_rfl) (by simp) ?_
          refine AllReadyH.cons rfl (fun K hK => ?_) AllReadyH.nil
          rw [if_pos (by kernel_rfl)]
          go_simp
          have hbl := fun (X : Obj) => (Below.lt_of64 ((Below.refl w4.heap.size w4).alloc (Nat.le_refl _) X) (HC5.out))
          refine hK.out _ _ ⟨?_, ?_⟩ (fun hHeld => ?_)
          · exact (HROW5.out.alloc _).drewN 1
          · exact ⟨hbl _ _ _ HH19.out.2.1, hbl _ _ _ HH19.out.2.2.1, hbl _ _ _ HH19.out.2.2.2.1, hbl _ _ _ HH19.out.2.2.2.2.1, hbl _ _ _ HH19.out.2.2.2.2.2.1, hbl _ _ _ HH19.out.2.2.2.2.2.2.1, hbl _ _ _ HH19.out.2.2.2.2.2.2.2.1, hbl _ _ _ HH19.out.2.2.2.2.2.2.2.2⟩
          clear hK K hbl
          refine wpAnyH_ready (rs := [33]) (by kernel_rfl) (by simp) ?_
          refine AllReadyH.cons rfl (fun K hK => ?_) AllReadyH.nil
          rw [if_pos (by kernel_rfl)]
          go_simp
          refine hK.out _ _ hHeld (fun hHeld => ?_)
          clear hK K
          refine wpAnyH_done (by kernel_rfl) ?_ _
          go_wp2_with fail
          go_roundw
          case rel =>
            rw [cut64, cut64]
            refine ⟨k + 1, w4.heap.size, 8, by omega, by go_num, rfl, ?_, by simp, (HROW5.out.alloc _).drewN 1, ?_, ?_, ?_⟩
            · rw [HSUC.out]
              exact (Row.new w4 (Vs64 (S8x64.list ⟨(tt + uu) % 18446744073709551616, s0, s1, s2, (s3 + tt) % 18446744073709551616, s4, s5, s6⟩)) 51).range
            · exact range64_below (w' := (w4.alloc _).drew) (range64_below HRW.out HB4.out HGL.out) (((Below.refl _ _).alloc (Nat.le_refl _) _).drew) (Nat.lt_of_lt_of_le HGL.out HB4.out.size)
            · have := HB4.out.size
              have := HGL.out
              simp
              omega
            · exact HBE.out.trans (((HB4.out.alloc HB4.out.size _).drew).mono HBE.out.size)
          case measure => simp [intOf]; omega
        · obtain rfl : k = 80 := by omega
          rw [rst64_eq s (wds64_len ms)] at hrv
          clear hok hsuc
          obtain ⟨wo, rfl⟩ : ∃ wo : World, wo = wr := ⟨_, rfl⟩
          have hh3 : wo.rangeAt ph 0 (Vs64 s.list) := range64_below HH.out hbe HHL.out
          have hhl3 : ph < wo.heap.size := Nat.lt_of_lt_of_le HHL.out hbe.size
          have HRV3 := Lib.hid hrv
          have HPL3 := Lib.hid hpl
          have HROW3 := Lib.hid hrow
          have HBE3 := Lib.hid hbe
          have HH3 := Lib.hid hh3
          have HHL3 := Lib.hid hhl3
          clear hrv hpl hrow hrw hgl hbe hh3 hhl3
          go_wp2_with fail
          clear c2
          go_loopw [15, 16] (fun v i wx => ∃ j : Nat, j ≤ 8 ∧ i = .int .i64 j ∧ wx.ownsRow wo.heap.size 51 1 v j (Vs64 ((mxs64 s (wds64 ms)).list.take j)) ∧ Below wo.heap.size wo wx) (fun _ i _ => 8 - (intOf i).toNat)
          case atStart => exact ⟨0, by decide, rfl, World.ownsRow_nil _ _ _ _, Below.refl _ _⟩
          case round =>
            obtain ⟨j, hj, rfl, hown, hbx⟩ := hrel
            obtain ⟨Av, cv2, rfl⟩ := own_slice hown
            by_cases hlt : j < 8
            · have hget := mxget64 s (wds64 ms) hlt
              have hmt : (mxs64 s (wds64 ms)).list.take (j + 1) = (mxs64 s (wds64 ms)).list.take j ++ [(mxs64 s (wds64 ms)).list.getD j 0] := by
                have hl : j < (mxs64 s (wds64 ms)).list.length := hlt
                rw [List.take_add_one, List.getD, List.getElem?_eq_getElem hl]
                rfl
              rw [hget] at hmt
              have cp := rg64 (range64_below HRV3.out hbx HPL3.out) (k := j) hlt
              have cq := rg64 (range64_below HH3.out hbx HHL3.out) (k := j) hlt
              have hrow := HROW3.out.belowAll hbx
              generalize s.list.getD j 0 = y1 at *
              generalize (gone64 s (wds64 ms) 80).list.getD j 0 = y2 at *
              have hh24 : (fun w' : World => Row w' w.heap.size 53 (KdL64 A B) ∧ w'.cell? ⟨p, j, none⟩ = some (.int .u64 ((y2 : Nat) : Int)) ∧ w'.cell? ⟨ph, j, none⟩ = some (.int .u64 ((y1 : Nat) : Int))) wr.drew := ⟨hrow.drewN 1, cp, cq⟩
              have bj : (j : Int) < 8 := by omega
              have bj0 : (0 : Int) ≤ (j : Int) := by omega
              have HH24 := Lib.hid hh24
              have HMT := Lib.hid hmt
              have HOWN4 := Lib.hid hown
              have HBX := Lib.hid hbx
              clear hh24 hget hmt cp cq hown hbx hrow
              go_upto_region 24 with fail
              refine wp_region_any (by kernel_rfl) ?_
              change wpAny _ _ _ _ _ _ _ (World.drew _)
              refine wpAny_of_held (S := (fun w' : World => Row w' w.heap.size 53 (KdL64 A B) ∧ w'.cell? ⟨p, j, none⟩ = some (.int .u64 ((y2 : Nat) : Int)) ∧ w'.cell? ⟨ph, j, none⟩ = some (.int .u64 ((y1 : Nat) : Int)))) _ _ _ _ ?_
              have hHeld := HH24.out
              refine wpAnyH_take (i := 0) (v := ?_) rfl (by kernel_rfl) (by kernel_rfl) (by kernel_rfl) (fun _ _ _ h => h) (Or.inl ⟨by rfl, ?_⟩) hHeld ?_
              rotate_left
              · (intro w' hSw; go_simp; try (with_reducible rfl))
              change wpAnyH _ _ _ _ _ _ _ (Act.put _ (some 204) _) _
              simp only [Act.put, List.setIfInBounds_toArray, List.set_cons_zero, List.set_cons_succ]
              refine wpAnyH_take (i := 1) (v := ?_) rfl (by kernel_rfl) (by kernel_rfl) (by kernel_rfl) (fun _ _ _ h => h) (Or.inl ⟨by rfl, ?_⟩) hHeld ?_
              rotate_left
              · (intro w' hSw; go_simp; try (with_reducible rfl))
              change wpAnyH _ _ _ _ _ _ _ (Act.put _ (some 205) _) _
              simp only [Act.put, List.setIfInBounds_toArray, List.set_cons_zero, List.set_cons_succ]
              refine wpAnyH_take (i := 2) (v := ?_) rfl (by kernel_rfl) (by kernel_rfl) (by kernel_rfl) (fun _ _ _ h => h) (Or.inl ⟨by rfl, ?_⟩) hHeld ?_
              rotate_left
              · (intro w' hSw; go_simp; try (with_reducible rfl))
              change wpAnyH _ _ _ _ _ _ _ (Act.put _ (some 206) _) _
              simp only [Act.put, List.setIfInBounds_toArray, List.set_cons_zero, List.set_cons_succ]
              refine wpAnyH_take (i := 3) (v := ?_) rfl (by kernel_rfl) (by kernel_rfl) (by kernel_rfl) (fun _ _ _ h => h) (Or.inl ⟨by rfl, ?_⟩) hHeld ?_
              rotate_left
              · (intro w' hSw; go_simp; try (with_reducible rfl))
              change wpAnyH _ _ _ _ _ _ _ (Act.put _ (some 207) _) _
              simp only [Act.put, List.setIfInBounds_toArray, List.set_cons_zero, List.set_cons_succ]
              refine wpAnyH_take (i := 5) (v := ?_) rfl (by kernel_rfl) (by kernel_rfl) (by kernel_rfl) (fun _ _ _ h => h) (Or.inl ⟨by rfl, ?_⟩) hHeld ?_
              rotate_left
              · (intro w' hSw; go_simp; try (with_reducible rfl))
              change wpAnyH _ _ _ _ _ _ _ (Act.put _ (some 209) _) _
              simp only [Act.put, List.setIfInBounds_toArray, List.set_cons_zero, List.set_cons_succ]
              refine wpAnyH_take (i := 6) (v := ?_) rfl (by kernel_rfl) (by kernel_rfl) (by kernel_rfl) (fun _ _ _ h => h) (Or.inl ⟨by rfl, ?_⟩) hHeld ?_
              rotate_left
              · (intro w' hSw; go_simp; try (with_reducible rfl))
              change wpAnyH _ _ _ _ _ _ _ (Act.put _ (some 210) _) _
              simp only [Act.put, List.setIfInBounds_toArray, List.set_cons_zero, List.set_cons_succ]
              refine wpAnyH_take (i := 7) (v := ?_) rfl (by kernel_rfl) (by kernel_rfl) (by kernel_rfl) (fun _ _ _ h => h) (Or.inl ⟨by rfl, ?_⟩) hHeld ?_
              rotate_left
              · (intro w' hSw; go_simp; try (with_reducible rfl))
              change wpAnyH _ _ _ _ _ _ _ (Act.put _ (some 211) _) _
              simp only [Act.put, List.setIfInBounds_toArray, List.set_cons_zero, List.set_cons_succ]
              refine wpAnyH_take (i := 10) (v := ?_) rfl (by kernel_rfl) (by kernel_rfl) (by kernel_rfl) (fun _ _ _ h => h) (Or.inl ⟨by rfl, ?_⟩) hHeld ?_
              rotate_left
              · (intro w' hSw; go_simp; try (with_reducible rfl))
              change wpAnyH _ _ _ _ _ _ _ (Act.put _ (some 214) _) _
              simp only [Act.put, List.setIfInBounds_toArray, List.set_cons_zero, List.set_cons_succ]
              refine wpAnyH_take (i := 4) (v := ?_) rfl (by kernel_rfl) (by kernel_rfl) (by kernel_rfl) (fun _ _ _ h => h) (Or.inl ⟨by rfl, ?_⟩) hHeld ?_
              rotate_left
              · (intro w' hSw; have c0 := hSw.2.2; go_simp; try (with_reducible rfl))
              change wpAnyH _ _ _ _ _ _ _ (Act.put _ (some 208) _) _
              simp only [Act.put, List.setIfInBounds_toArray, List.set_cons_zero, List.set_cons_succ]
              refine wpAnyH_take (i := 8) (v := ?_) rfl (by kernel_rfl) (by kernel_rfl) (by kernel_rfl) (fun _ _ _ h => h) (Or.inl ⟨by rfl, ?_⟩) hHeld ?_
              rotate_left
              · (intro w' hSw; have c0 := hSw.2.1; go_simp; try (with_reducible rfl))
              change wpAnyH _ _ _ _ _ _ _ (Act.put _ (some 212) _) _
              simp only [Act.put, List.setIfInBounds_toArray, List.set_cons_zero, List.set_cons_succ]
              refine wpAnyH_take (i := 11) (v := ?_) rfl (by kernel_rfl) (by kernel_rfl) (by kernel_rfl) (fun _ _ _ h => h) (Or.inl ⟨by rfl, ?_⟩) hHeld ?_
              rotate_left
              · (intro w' hSw; have c0 := hSw.1.cell (k := 16) rfl; go_simp; try (with_reducible rfl))
              change wpAnyH _ _ _ _ _ _ _ (Act.put _ (some 215) _) _
              simp only [Act.put, List.setIfInBounds_toArray, List.set_cons_zero, List.set_cons_succ]
              refine wpAnyH_take (i := 9) (v := ?_) rfl (by kernel_rfl) (by kernel_rfl) (by kernel_rfl) (fun _ _ _ h => h) (Or.inl ⟨by rfl, ?_⟩) hHeld ?_
              rotate_left
              · (intro w' hSw; go_simp; try (with_reducible rfl))
              change wpAnyH _ _ _ _ _ _ _ (Act.put _ (some 213) _) _
              simp only [Act.put, List.setIfInBounds_toArray, List.set_cons_zero, List.set_cons_succ]
              refine wpAnyH_take (i := 12) (v := ?_) rfl (by kernel_rfl) (by kernel_rfl) (by kernel_rfl) (fun _ _ _ h => h) (Or.inl ⟨by rfl, ?_⟩) hHeld ?_
              rotate_left
              · (intro w' hSw; go_simp; try (with_reducible rfl))
              change wpAnyH _ _ _ _ _ _ _ (Act.put _ (some 216) _) _
              simp only [Act.put, List.setIfInBounds_toArray, List.set_cons_zero, List.set_cons_succ]
              refine wpAnyH_ready (rs := [13]) (by kernel_rfl) (by simp) ?_
              refine AllReadyH.cons rfl (fun K hK => ?_) AllReadyH.nil
              rw [if_pos (by kernel_rfl)]
              rw [cut64]
              go_simp
              have hbl := fun (X : Obj) => (Below.lt_of64 ((Below.refl wr.heap.size wr).alloc (Nat.le_refl _) X) (HH24.out.2.1))
              refine hK.out _ _ ⟨?_, ?_⟩ (fun hHeld => ?_)
              · exact (HH24.out.1.alloc _).drewN 0
              · exact ⟨hbl _ _ _ HH24.out.2.1, hbl _ _ _ HH24.out.2.2⟩
              clear hK K hbl
              refine wpAnyH_ready (rs := [14]) (by kernel_rfl) (by simp) ?_
              refine AllReadyH.cons rfl (fun K hK => ?_) AllReadyH.nil
              rw [if_pos (by kernel_rfl)]
              refine wp_append_rd (.tmp 204) (.tmp 217) 49 rfl wo.heap.size 51 i0 (.int .u64 0) 8 Tryd.underlying49 HI.out HZ0.out HZ1.out HZ2.out rfl (.slice Av j cv2) j (Vs64 ((mxs64 s (wds64 ms)).list.take j)) rfl ((HOWN4.out.alloc _).drew) (fun b => b = wr.heap.size) (some ⟨wr.heap.size, 0, none⟩) 1 1 (Vs64 [(y1 + y2) % 18446744073709551616]) rfl ((Rd.lit wr (Vs64 [(y1 + y2) % 18446744073709551616]) _ _ rfl 1 rfl).keep (Nat.le_refl _) (fun _ _ _ => rfl)) (Vs64_one _) (by unfold maxLen; omega) (by omega) (by have := HBX.out.size; simp; omega) ?_
              intro v' w6 hown6 hg6 _
              have hb6 : Below wo.heap.size wo w6 := ((HBX.out.alloc HBX.out.size _).drew).grown hg6 (by have := HBX.out.size; simp; omega) (fun b hb => (HOWN4.out.lt b hb).1)
              have hc6 : w6.cell? ⟨p, j, none⟩ = some (.int .u64 ((y2 : Nat) : Int)) := (hb6.cell (p := ⟨p, j, none⟩) HPL3.out).trans (((HBX.out.cell (p := ⟨p, j, none⟩) HPL3.out).symm).trans HH24.out.2.1)
              have hd6 : w6.cell? ⟨ph, j, none⟩ = some (.int .u64 ((y1 : Nat) : Int)) := (hb6.cell (p := ⟨ph, j, none⟩) HHL3.out).trans (((HBX.out.cell (p := ⟨ph, j, none⟩) HHL3.out).symm).trans HH24.out.2.2)
              have hr6 := HROW3.out.belowAll hb6
              have HO6 := Lib.hid hown6
              have HB6 := Lib.hid hb6
              clear hown6 hg6 hb6
              refine hK.out _ _ ⟨hr6, hc6, hd6⟩ (fun hHeld => ?_)
              clear hK K
              clear hc6 hd6 hr6
              refine wpAnyH_ready (rs := [15]) (by kernel_rfl) (by simp) ?_
              refine AllReadyH.cons rfl (fun K hK => ?_) AllReadyH.nil
              rw [if_pos (by kernel_rfl)]
              go_simp
              refine hK.out _ _ hHeld (fun hHeld => ?_)
              clear hK K
              refine wpAnyH_done (by kernel_rfl) ?_ _
              go_wp2_with fail
              go_roundw
              case rel =>
                refine ⟨j + 1, by omega, by go_num, ?_, HB6.out⟩
                rw [HMT.out, Vs64_append]
                exact HO6.out
              case measure => simp [intOf]; omega
            · obtain rfl : j = 8 := by omega
              have hfin : (mxs64 s (wds64 ms)).list.take 8 = (mxs64 s (wds64 ms)).list := rfl
              rw [hfin] at hown
              have HOWN4 := Lib.hid hown
              have HBX := Lib.hid hbx
              clear hfin hown hbx
              go_wp2_with fail
              go_ret
              exact ⟨_, rfl, own_base HOWN4.out HBE3.out.size, HBE3.out.trans (HBX.out.mono HBE3.out.size)⟩

end Go.Proofs.YtcdfbcpcgkcojaaDoor
