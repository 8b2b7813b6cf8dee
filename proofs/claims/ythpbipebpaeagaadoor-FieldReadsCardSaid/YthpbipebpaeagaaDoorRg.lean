/- The document's Small, Add. -/
import Derived.Test.YthpbipebpaeagaaDoorRf
namespace Go.Proofs.YthpbipebpaeagaaDoor
set_option maxRecDepth 100000
set_option linter.unusedSimpArgs false
open Go.RowKit

theorem dw_small {n : Nat} (h : n < 4294967296) : ∀ k, dw n (k + 1) = 0 := fun k => by
  unfold dw
  rw [Nat.div_eq_of_lt (Nat.lt_of_lt_of_le h ?_)]
  rw [Nat.pow_succ]
  exact Nat.le_mul_of_pos_left _ (Nat.pow_pos (by decide))
theorem Nw_small {n : Nat} (h : n < 4294967296) : Nw n = [.int .u32 (n : Int), .int .u32 0, .int .u32 0, .int .u32 0, .int .u32 0, .int .u32 0, .int .u32 0, .int .u32 0] := by
  have e0 : dw n 0 = n := by unfold dw; rw [Nat.pow_zero, Nat.div_one]; exact Nat.mod_eq_of_lt h
  show [Value.int .u32 ((dw n 0 : Nat) : Int), .int .u32 ((dw n 1 : Nat) : Int), .int .u32 ((dw n 2 : Nat) : Int), .int .u32 ((dw n 3 : Nat) : Int), .int .u32 ((dw n 4 : Nat) : Int), .int .u32 ((dw n 5 : Nat) : Int), .int .u32 ((dw n 6 : Nat) : Int), .int .u32 ((dw n 7 : Nat) : Int)] = _
  rw [e0, dw_small h 0, dw_small h 1, dw_small h 2, dw_small h 3, dw_small h 4, dw_small h 5, dw_small h 6]
  rfl

set_option maxHeartbeats 1600000 in
theorem smallr_ref (n : Nat) (h : n < 4294967296) (w : World) :
    Calls Tryd.prog 39 #[.int .u32 (n : Int)] w fun e w' => e = .returned (.agg (Nw n).toArray) ∧ Below w.heap.size w w' := by
  rw [Nw_small h]
  go_enter Tryd.func39, Tryd.ntmps39
  go_wp2
  refine bodyPost_ret (results_cell_row (by rfl) _ _ w.heap.size _ _ _ _ (by rfl) (heap_alloc_new _ _) Tryd.underlying30 rfl (by kernel_rfl)) rfl ?_
  exact ⟨rfl, (Below.refl _ _).alloc (Nat.le_refl _) _⟩

/-- What is carried over the lowest k digits of a sum. -/
def cqr (A B k : Nat) : Nat := (A % 4294967296 ^ k + B % 4294967296 ^ k) / 4294967296 ^ k
theorem cqr_zero (A B : Nat) : cqr A B 0 = 0 := by unfold cqr; rw [Nat.pow_zero, Nat.mod_one, Nat.mod_one]
theorem cqr_le (A B k : Nat) : cqr A B k ≤ 1 := by
  have hp : 0 < 4294967296 ^ k := Nat.pow_pos (by decide)
  have a := Nat.mod_lt A hp
  have b := Nat.mod_lt B hp
  unfold cqr
  refine Nat.le_of_lt_succ ((Nat.div_lt_iff_lt_mul hp).2 ?_)
  omega
theorem cqr_step (A B k : Nat) : dw A k + dw B k + cqr A B k = dw (A + B) k + 4294967296 * cqr A B (k + 1) := by
  unfold cqr
  rw [mod_dw A, mod_dw B, Nat.pow_succ]
  have hp : 0 < 4294967296 ^ k := Nat.pow_pos (by decide)
  have hA := Nat.div_add_mod A (4294967296 ^ k)
  have hB := Nat.div_add_mod B (4294967296 ^ k)
  have e : dw (A + B) k = (A / 4294967296 ^ k + B / 4294967296 ^ k + (A % 4294967296 ^ k + B % 4294967296 ^ k) / 4294967296 ^ k) % 4294967296 := by
    unfold dw
    have e1 : A + B = (A % 4294967296 ^ k + B % 4294967296 ^ k) + 4294967296 ^ k * (A / 4294967296 ^ k + B / 4294967296 ^ k) := by
      rw [Nat.mul_add]; omega
    rw [e1, Nat.add_mul_div_left _ _ hp, Nat.add_comm]
  have e2 : (A % 4294967296 ^ k + 4294967296 ^ k * dw A k + (B % 4294967296 ^ k + 4294967296 ^ k * dw B k)) / (4294967296 ^ k * 4294967296) = ((A % 4294967296 ^ k + B % 4294967296 ^ k) / 4294967296 ^ k + (dw A k + dw B k)) / 4294967296 := by
    rw [← Nat.div_div_eq_div_mul]
    congr 1
    have e3 : A % 4294967296 ^ k + 4294967296 ^ k * dw A k + (B % 4294967296 ^ k + 4294967296 ^ k * dw B k) = (A % 4294967296 ^ k + B % 4294967296 ^ k) + 4294967296 ^ k * (dw A k + dw B k) := by
      rw [Nat.mul_add]; omega
    rw [e3, Nat.add_mul_div_left _ _ hp]
  rw [e, e2]
  unfold dw
  omega
theorem cqr_8 {A B : Nat} : dw (A + B) 7 < 4294967296 := dw_lt _ _

set_option maxHeartbeats 3200000 in
theorem addr_ref (A B : Nat) (h : A + B < W8) (w : World) :
    Calls Tryd.prog 28 #[.agg (Nw A).toArray, .agg (Nw B).toArray] w fun e w' => e = .returned (.agg (Nw ((A + B) % pp)).toArray) ∧ Below w.heap.size w w' := by
  have HDOWN := Lib.hid (fun wx => down_ref (A + B) h wx)
  have HS4 := Lib.hid nw_info
  clear h
  go_enter Tryd.func28, Tryd.ntmps28
  go_wp2_with fail
  go_loopw [6, 7] (fun u i wr => ∃ k : Nat, k ≤ 8 ∧ i = .int .i64 k ∧ u = .int .u64 ((cqr A B k : Nat) : Int) ∧ Row wr w.heap.size 30 (Nw A) ∧ Row wr (w.heap.size + 1) 30 (Nw B) ∧ Row wr (w.heap.size + 1 + 1 + 1) 30 (Tab .u32 (dw (A + B)) 8 k) ∧ Row wr (w.heap.size + 1 + 1) 30 (Nw 0) ∧ Below w.heap.size w wr) (fun _ i _ => 8 - (intOf i).toNat)
  case atStart =>
    refine ⟨0, Nat.zero_le _, rfl, by rw [cqr_zero]; rfl, ((Row.new w _ _).alloc _).alloc _ |>.alloc _, ((Row.new1 w _ _ _).alloc _).alloc _, ?_, ?_, Below.alloc4 _ _ _ _ _⟩
    · rw [Tab_zero]
      exact Row.new3 w _ _ _ _ _
    · rw [Nw_zero]
      exact (Row.new2 w _ _ _ _).alloc _
  case round =>
    obtain ⟨k, hkn, rfl, rfl, ha, hb, hrow, hres, hbe⟩ := hrel
    by_cases hlt : k < 8
    · have hca := ha.cell (Nw_get A hlt)
      have hcb := hb.cell (Nw_get B hlt)
      have hold := hrow.cell (Tab_get .u32 (dw (A + B)) 8 k hlt)
      have hfree := hrow.free k
      have hset := hrow.set k (.int .u32 ((dw (A + B) k : Nat) : Int))
      rw [Tab_w _ hlt] at hset
      have ha2 := ha.setCell (p := ⟨w.heap.size + 1 + 1 + 1, k, none⟩) (by show _ ≠ w.heap.size + 1 + 1 + 1; omega) (.int .u32 ((dw (A + B) k : Nat) : Int))
      have hb2 := hb.setCell (p := ⟨w.heap.size + 1 + 1 + 1, k, none⟩) (by show _ ≠ w.heap.size + 1 + 1 + 1; omega) (.int .u32 ((dw (A + B) k : Nat) : Int))
      have hres2 := hres.setCell (p := ⟨w.heap.size + 1 + 1 + 1, k, none⟩) (by show _ ≠ w.heap.size + 1 + 1 + 1; omega) (.int .u32 ((dw (A + B) k : Nat) : Int))
      have hbe2 := hbe.setCell (p := ⟨w.heap.size + 1 + 1 + 1, k, none⟩) (by simp; omega) (.int .u32 ((dw (A + B) k : Nat) : Int))
      have hs := cqr_step A B k
      have lx := dw_lt A k
      have ly := dw_lt B k
      have ls := dw_lt (A + B) k
      have lu := cqr_le A B k
      generalize dw (A + B) k = s at *
      generalize dw A k = x at *
      generalize dw B k = y at *
      generalize hoo : cqr A B (k + 1) = o at *
      have HO := Lib.hid hoo
      clear hoo
      generalize cqr A B k = u at *
      have b0 : (0 : Int) ≤ (k : Int) := by omega
      have b1 : (k : Int) < 8 := by omega
      have HSET := Lib.hid hset
      have HA2 := Lib.hid ha2
      have HB2 := Lib.hid hb2
      have HRES2 := Lib.hid hres2
      have HBE2 := Lib.hid hbe2
      have HS := Lib.hid hs
      clear ha hb hrow hres hbe hset ha2 hb2 hres2 hbe2 hs
      go_wp2_with fail
      go_region
      have hdr : (x : Int) + (y : Int) + (u : Int) = ((s + 4294967296 * o : Nat) : Int) := by
        have := HS.out
        omega
      rw [hdr]
      have hlo : ((s + 4294967296 * o : Nat) : Int) % 4294967296 = ((s : Nat) : Int) := by omega
      have hhi : ((s + 4294967296 * o : Nat) : Int) / 4294967296 = ((o : Nat) : Int) := by omega
      have hb0 : (0 : Int) ≤ ((s + 4294967296 * o : Nat) : Int) := by omega
      have hb1 : ((s + 4294967296 * o : Nat) : Int) < 18446744073709551616 := by have := HS.out; omega
      generalize ((s + 4294967296 * o : Nat) : Int) = D at *
      have HLO := Lib.hid hlo
      have HHI := Lib.hid hhi
      clear hlo hhi hdr
      go_wp2_with fail
      rw [HLO.out]
      go_wp2_with fail
      go_roundw
      case rel =>
        refine ⟨k + 1, by omega, by go_num, by rw [HHI.out, ← HO.out], HA2.out, HB2.out, HSET.out, HRES2.out, HBE2.out.drew⟩
      case measure => simp [intOf]; omega
    · obtain rfl : k = 8 := by omega
      rw [Tab_done] at hrow
      have hrow2 : Row wr (w.heap.size + 1 + 1 + 1) 30 (Nw (A + B)) := hrow
      have HROW := Lib.hid hrow2
      have HRES := Lib.hid hres
      have HBE := Lib.hid hbe
      clear hrow hrow2 hres hbe ha hb
      go_wp2_with (refine wpList_load_row rfl 30 (.tmp 5) rfl (w.heap.size + 1 + 1 + 1) rfl 30 _ (0, 0) _ HROW.out Tryd.underlying30 rfl (HS4.out _) ?_)
      refine (HDOWN.out _).mono ?_
      rintro e w2 ⟨rfl, hb2⟩
      have hz2 := HRES.out.belowAll hb2
      have hw2 := HBE.out.trans (hb2.mono HBE.out.size)
      have HW2 := Lib.hid hw2
      clear hb2 hw2
      go_wp2_with (refine wpList_store_row rfl 30 (.tmp 4) (.tmp 31) rfl (w.heap.size + 1 + 1) _ rfl rfl 30 _ hz2 (HS4.out _) (Nw_sz _ _) (Nw_one _) ?_)
      have hgot := setRow_heap w2 (w.heap.size + 1 + 1) _ (Nw ((A + B) % pp)).toArray _ _ hz2
      refine bodyPost_ret (results_cell_row (by rfl) _ _ (w.heap.size + 1 + 1) _ _ _ _ (by rfl) hgot Tryd.underlying30 rfl (HS4.out _)) rfl ?_
      exact ⟨rfl, below_setRow HW2.out (by omega) _⟩

end Go.Proofs.YthpbipebpaeagaaDoor
