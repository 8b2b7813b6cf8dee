/- The document's numbers: Bytes, Raw, Less, Odd. -/
import Derived.Test.YthpbipebpaeagaaDoorRb
namespace Go.Proofs.YthpbipebpaeagaaDoor
set_option maxRecDepth 100000
set_option linter.unusedSimpArgs false
open Go.RowKit

theorem rshr_byte (D t : Nat) : ((D : Nat) : Int) / 2 ^ t % 256 = ((D / 2 ^ t % 256 : Nat) : Int) := by
  have e : ((D : Nat) : Int) / 2 ^ t = ((D / 2 ^ t : Nat) : Int) := by simp
  rw [e]
  omega

set_option maxHeartbeats 1600000 in
theorem rbytes_ref (N : Nat) (w : World) :
    Calls Tryd.prog 17 #[.agg (Nw N).toArray] w fun e w' => e = .returned (.agg (By N 32).toArray) ∧ Below w.heap.size w w' := by
  have HSB := Lib.hid by_info
  go_enter Tryd.func17, Tryd.ntmps17
  go_wp2_with fail
  go_loopw [4] (fun i wr => ∃ k : Nat, k ≤ 32 ∧ i = .int .i64 k ∧ Row wr w.heap.size 30 (Nw N) ∧ Row wr (w.heap.size + 1 + 1) 22 (Tab .u8 (byt N) 32 k) ∧ Row wr (w.heap.size + 1) 22 (Tab .u8 (byt N) 32 0) ∧ Below w.heap.size w wr) (fun i _ => 32 - (intOf i).toNat)
  case atStart =>
    refine ⟨0, Nat.zero_le _, rfl, ((Row.new w _ _).alloc _).alloc _, ?_, ?_, Below.alloc3 _ _ _ _⟩
    · rw [Tab_zero]
      exact Row.new2 w _ _ (List.replicate 32 (.int .u8 0)) _
    · rw [Tab_zero]
      exact (Row.new1 w _ (List.replicate 32 (.int .u8 0)) _).alloc _
  case round =>
    obtain ⟨k, hkn, rfl, hn, hrow, hres, hbe⟩ := hrel
    by_cases hlt : k < 32
    · have hcell := hn.cell (Nw_get N (k := k / 4) (by omega))
      have hfree := hrow.free k
      have hold := hrow.cell (Tab_get .u8 (byt N) 32 k hlt)
      have hset := hrow.set k (.int .u8 ((byt N k : Nat) : Int))
      rw [By_set N 32 hlt] at hset
      have hn2 := hn.setCell (p := ⟨w.heap.size + 1 + 1, k, none⟩) (by show _ ≠ w.heap.size + 1 + 1; omega) (.int .u8 ((byt N k : Nat) : Int))
      have hres2 := hres.setCell (p := ⟨w.heap.size + 1 + 1, k, none⟩) (by show _ ≠ w.heap.size + 1 + 1; omega) (.int .u8 ((byt N k : Nat) : Int))
      have hb2 := hbe.setCell (p := ⟨w.heap.size + 1 + 1, k, none⟩) (by simp; omega) (.int .u8 ((byt N k : Nat) : Int))
      have hrun := rshr_byte (dw N (k / 4)) (8 * (k % 4))
      rw [dw_byt] at hrun
      have hd : Int.tdiv (k : Int) 4 = ((k / 4 : Nat) : Int) := by rw [Int.tdiv_eq_ediv_of_nonneg (by omega)]; omega
      have hm : Int.tmod (k : Int) 4 = ((k % 4 : Nat) : Int) := by rw [Int.tmod_eq_emod_of_nonneg (by omega)]; omega
      have hd' : (k : Int) / 4 = ((k / 4 : Nat) : Int) := by omega
      have hm' : (k : Int) % 4 = ((k % 4 : Nat) : Int) := by omega
      have hi8 : k / 4 < 8 := by omega
      have hj8 : k % 4 < 4 := by omega
      generalize dw N (k / 4) = x at *
      generalize byt N k = y at *
      generalize k / 4 = i at *
      generalize k % 4 = j at *
      have b0 : (0 : Int) ≤ (i : Int) := by omega
      have b1 : (i : Int) < 8 := by omega
      have b2 : (0 : Int) ≤ 8 * (j : Int) := by omega
      have b3 : 8 * (j : Int) < 32 := by omega
      have b4 : (0 : Int) ≤ (k : Int) := by omega
      have b5 : (k : Int) < 32 := by omega
      have hw1 : IntKind.i64.wrap ((i : Nat) : Int) = (i : Int) := IntWalk.i64_in _ (by omega)
      have HSET := Lib.hid hset
      have HN2 := Lib.hid hn2
      have HRES2 := Lib.hid hres2
      have HB2 := Lib.hid hb2
      clear hn hrow hres hbe hset hn2 hres2 hb2
      go_wp2_with fail
      go_roundw
      case rel => exact ⟨k + 1, by omega, by go_num, HN2.out, HSET.out, HRES2.out, HB2.out⟩
      case measure => simp [intOf]; omega
    · obtain rfl : k = 32 := by omega
      rw [Tab_done] at hrow
      rw [Tab_zero] at hres
      have hO : (List.replicate 32 (Value.int .u8 0)).toArray.size = (By N 32).toArray.size := by rw [List.size_toArray, List.size_toArray, By_length, List.length_replicate]
      have hrow2 : Row wr (w.heap.size + 1 + 1) 22 (By N 32) := hrow
      have HROW := Lib.hid hrow2
      have HRES := Lib.hid hres
      have HBE := Lib.hid hbe
      have HO4 := Lib.hid hO
      clear hrow hrow2 hres hbe hO hn
      go_wp2_with (first
        | (refine wpList_load_row rfl 22 (.tmp 3) rfl (w.heap.size + 1 + 1) rfl 22 _ (0, 0) _ HROW.out Tryd.underlying22 rfl (HSB.out _) ?_)
        | (refine wpList_store_row rfl 22 (.tmp 2) (.tmp 20) rfl (w.heap.size + 1) _ rfl rfl 22 _ HRES.out (HSB.out _) HO4.out (By_one _ _) ?_))
      have hgot := setRow_heap wr (w.heap.size + 1) _ (By N 32).toArray _ _ HRES.out
      refine bodyPost_ret (results_cell_row (by rfl) _ _ (w.heap.size + 1) _ _ _ _ (by rfl) hgot Tryd.underlying22 rfl (HSB.out _)) rfl ?_
      exact ⟨rfl, below_setRow HBE.out (by omega) _⟩

set_option maxHeartbeats 1600000 in
theorem raw_ref (N : Nat) (hN : N < 256 ^ 32) (w : World) :
    Calls Tryd.prog 24 #[.agg (By N 32).toArray] w fun e w' => e = .returned (.agg (Nw N).toArray) ∧ Below w.heap.size w w' := by
  have HS4 := Lib.hid nw_info
  have HN := Lib.hid hN
  clear hN
  go_enter Tryd.func24, Tryd.ntmps24
  go_wp2_with fail
  go_loopw [4] (fun i wr => ∃ k : Nat, k ≤ 32 ∧ i = .int .i64 k ∧ Row wr w.heap.size 22 (By N 32) ∧ Row wr (w.heap.size + 1 + 1) 30 (Nw (N % 256 ^ k)) ∧ Row wr (w.heap.size + 1) 30 (Nw 0) ∧ Below w.heap.size w wr) (fun i _ => 32 - (intOf i).toNat)
  case atStart =>
    refine ⟨0, Nat.zero_le _, rfl, ((Row.new w _ _).alloc _).alloc _, ?_, ?_, Below.alloc3 _ _ _ _⟩
    · rw [Nat.pow_zero, Nat.mod_one, Nw_zero]
      exact Row.new2 w _ _ _ _
    · rw [Nw_zero]
      exact (Row.new1 w _ _ _).alloc _
  case round =>
    obtain ⟨k, hkn, rfl, hn, hrow, hres, hbe⟩ := hrel
    by_cases hlt : k < 32
    · have hcell := hn.cell (By_get N 32 hlt)
      have hfree := hrow.free (k / 4)
      have hold := hrow.cell (Nw_get (N % 256 ^ k) (k := k / 4) (by omega))
      have hset := hrow.set (k / 4) (.int .u32 ((dw (N % 256 ^ k) (k / 4) ||| byt N k * 2 ^ (8 * (k % 4)) : Nat) : Int))
      rw [Nw_byte N hlt] at hset
      have hn2 := hn.setCell (p := ⟨w.heap.size + 1 + 1, k / 4, none⟩) (by show _ ≠ w.heap.size + 1 + 1; omega) (.int .u32 ((dw (N % 256 ^ k) (k / 4) ||| byt N k * 2 ^ (8 * (k % 4)) : Nat) : Int))
      have hres2 := hres.setCell (p := ⟨w.heap.size + 1 + 1, k / 4, none⟩) (by show _ ≠ w.heap.size + 1 + 1; omega) (.int .u32 ((dw (N % 256 ^ k) (k / 4) ||| byt N k * 2 ^ (8 * (k % 4)) : Nat) : Int))
      have hb2 := hbe.setCell (p := ⟨w.heap.size + 1 + 1, k / 4, none⟩) (by simp; omega) (.int .u32 ((dw (N % 256 ^ k) (k / 4) ||| byt N k * 2 ^ (8 * (k % 4)) : Nat) : Int))
      have lb := byt_lt N k
      have lx := dw_lt (N % 256 ^ k) (k / 4)
      have hsm : byt N k * 2 ^ (8 * (k % 4)) < 4294967296 := by
        have h7 : 2 ^ (8 * (k % 4)) ≤ 2 ^ 24 := Nat.pow_le_pow_right (by decide) (by omega)
        have h1 := Nat.mul_le_mul (show byt N k ≤ 255 by omega) h7
        omega
      have hshl : (((byt N k : Nat) : Int) * 2 ^ (8 * (k % 4))) % 4294967296 = ((byt N k * 2 ^ (8 * (k % 4)) : Nat) : Int) := by
        have e : ((byt N k : Nat) : Int) * 2 ^ (8 * (k % 4)) = ((byt N k * 2 ^ (8 * (k % 4)) : Nat) : Int) := by simp
        rw [e]
        omega
      have hor := u32_or_nat _ _ lx hsm
      have hd : Int.tdiv (k : Int) 4 = ((k / 4 : Nat) : Int) := by rw [Int.tdiv_eq_ediv_of_nonneg (by omega)]; omega
      have hm : Int.tmod (k : Int) 4 = ((k % 4 : Nat) : Int) := by rw [Int.tmod_eq_emod_of_nonneg (by omega)]; omega
      have hd' : (k : Int) / 4 = ((k / 4 : Nat) : Int) := by omega
      have hm' : (k : Int) % 4 = ((k % 4 : Nat) : Int) := by omega
      have hi8 : k / 4 < 8 := by omega
      have hj8 : k % 4 < 4 := by omega
      generalize dw (N % 256 ^ k) (k / 4) ||| byt N k * 2 ^ (8 * (k % 4)) = z at *
      generalize byt N k * 2 ^ (8 * (k % 4)) = s at *
      generalize dw (N % 256 ^ k) (k / 4) = x at *
      generalize byt N k = y at *
      generalize k / 4 = i at *
      generalize k % 4 = j at *
      have b0 : (0 : Int) ≤ (i : Int) := by omega
      have b1 : (i : Int) < 8 := by omega
      have b2 : (0 : Int) ≤ 8 * (j : Int) := by omega
      have b3 : 8 * (j : Int) < 32 := by omega
      have b4 : (0 : Int) ≤ (k : Int) := by omega
      have b5 : (k : Int) < 32 := by omega
      have hw1 : IntKind.i64.wrap ((i : Nat) : Int) = (i : Int) := IntWalk.i64_in _ (by omega)
      have HSET := Lib.hid hset
      have HN2 := Lib.hid hn2
      have HRES2 := Lib.hid hres2
      have HB2 := Lib.hid hb2
      have HSHL := Lib.hid hshl
      have HOR := Lib.hid hor
      clear hn hrow hres hbe hset hn2 hres2 hb2 hshl hor hsm
      go_wp2_with fail
      go_region
      rw [HSHL.out, HOR.out]
      generalize wr.setCell ⟨w.heap.size + 1 + 1, i, none⟩ (Value.int .u32 ((z : Nat) : Int)) = wy at *
      clear hd hm hd' hm' hw1 hcell hold hfree
      go_wp2_with fail
      go_roundw
      case rel => exact ⟨k + 1, by omega, by go_num, HN2.out, HSET.out, HRES2.out, HB2.out.drew⟩
      case measure => simp [intOf]; omega
    · obtain rfl : k = 32 := by omega
      rw [Nat.mod_eq_of_lt HN.out] at hrow
      have HROW := Lib.hid hrow
      have HRES := Lib.hid hres
      have HBE := Lib.hid hbe
      clear hrow hres hbe hn
      go_wp2_with (first
        | (refine wpList_load_row rfl 30 (.tmp 3) rfl (w.heap.size + 1 + 1) rfl 30 _ (0, 0) _ HROW.out Tryd.underlying30 rfl (HS4.out _) ?_)
        | (refine wpList_store_row rfl 30 (.tmp 2) (.tmp 25) rfl (w.heap.size + 1) _ rfl rfl 30 _ HRES.out (HS4.out _) (Nw_sz _ _) (Nw_one _) ?_))
      have hgot := setRow_heap wr (w.heap.size + 1) _ (Nw N).toArray _ _ HRES.out
      refine bodyPost_ret (results_cell_row (by rfl) _ _ (w.heap.size + 1) _ _ _ _ (by rfl) hgot Tryd.underlying30 rfl (HS4.out _)) rfl ?_
      exact ⟨rfl, below_setRow HBE.out (by omega) _⟩

end Go.Proofs.YthpbipebpaeagaaDoor
