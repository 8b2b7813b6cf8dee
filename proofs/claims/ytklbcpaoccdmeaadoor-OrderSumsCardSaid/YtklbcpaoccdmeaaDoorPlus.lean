/- order's number.plus. -/
import Derived.Test.YtklbcpaoccdmeaaDoorCar
import Derived.Laws.BitsAllLaws
import Derived.Deep.CutRange
import Derived.Deep.CutBlock
import Derived.RegionTactic
import Derived.Lib.Hide
import Derived.IntWalk
namespace Go.Proofs.YtklbcpaoccdmeaaDoor
set_option maxRecDepth 100000
open Go.RowKit

set_option maxHeartbeats 1600000 in
theorem plus_any (N M : Nat) (w : World) :
    Calls Tryd.prog 27 #[.agg (Nm N).toArray, .agg (Nm M).toArray] w fun e w' => e = .returned (.agg (Nm (N + M)).toArray) ∧ Below w.heap.size w w' := by
  go_enter Tryd.func27, Tryd.ntmps27
  go_wp2_with fail
  go_loopw [6, 8] (fun o i wr => ∃ k : Nat, k ≤ 8 ∧ i = .int .i64 k ∧ o = .int .u64 ((cry N M k : Nat) : Int) ∧ Row wr w.heap.size 36 (Nm N) ∧ Row wr (w.heap.size + 1) 36 (Nm M) ∧ Row wr (w.heap.size + 1 + 1 + 1) 36 (Nm ((N + M) % M64 k)) ∧ Row wr (w.heap.size + 1 + 1) 36 (Nm 0) ∧ Below w.heap.size w wr) (fun _ i _ => 8 - (intOf i).toNat)
  case atStart =>
    refine ⟨0, Nat.zero_le _, rfl, ?_, (((Row.new w _ _).alloc _).alloc _).alloc _, ((Row.new1 w _ _ _).alloc _).alloc _, ?_, ?_, Below.alloc4 _ _ _ _ _⟩
    · rw [cry_zero]; rfl
    · have e : (N + M) % M64 0 = 0 := Nat.mod_one _
      rw [e, Nm_zero]
      exact Row.new3 w _ _ _ _ _
    · rw [Nm_zero]
      exact (Row.new2 w _ _ _ _).alloc _
  case round =>
    obtain ⟨k, hkn, rfl, rfl, hn, hm, hrow, hres, hbe⟩ := hrel
    by_cases hlt : k < 8
    · have hcn := hn.cell (Nm_get N hlt)
      have hcm := hm.cell (Nm_get M hlt)
      have hold := hrow.cell (Nm_get ((N + M) % M64 k) hlt)
      have hfree := hrow.free k
      have hset := hrow.set k (.int .u64 ((wd ((N + M)) k : Nat) : Int))
      rw [Nm_next ((N + M)) hlt] at hset
      have hn2 := hn.setCell (p := ⟨w.heap.size + 1 + 1 + 1, k, none⟩) (by show _ ≠ w.heap.size + 1 + 1 + 1; omega) (.int .u64 ((wd ((N + M)) k : Nat) : Int))
      have hm2 := hm.setCell (p := ⟨w.heap.size + 1 + 1 + 1, k, none⟩) (by show _ ≠ w.heap.size + 1 + 1 + 1; omega) (.int .u64 ((wd ((N + M)) k : Nat) : Int))
      have hres2 := hres.setCell (p := ⟨w.heap.size + 1 + 1 + 1, k, none⟩) (by show _ ≠ w.heap.size + 1 + 1 + 1; omega) (.int .u64 ((wd ((N + M)) k : Nat) : Int))
      have hb2 := hbe.setCell (p := ⟨w.heap.size + 1 + 1 + 1, k, none⟩) (by simp; omega) (.int .u64 ((wd ((N + M)) k : Nat) : Int))
      have hcall := add64n (wd N k) (wd M k) (cry N M k) (wd (N + M) k) (cry N M (k + 1)) (cry_le N M k) (sum_wd N M k) (cry_succ N M k)
      generalize wd ((N + M)) k = s at *
      generalize wd ((N + M) % M64 k) k = z at *
      generalize wd N k = x at *
      generalize wd M k = y at *
      generalize ho : cry N M (k + 1) = o at *
      have HO := Lib.hid ho
      clear ho
      generalize cry N M k = c at *
      have b0 : (0 : Int) ≤ (k : Int) := by omega
      have b1 : (k : Int) < 8 := by omega
      have HSET := Lib.hid hset
      have HN2 := Lib.hid hn2
      have HM2 := Lib.hid hm2
      have HRES2 := Lib.hid hres2
      have HB2 := Lib.hid hb2
      clear hn hm hrow hres hbe hset hn2 hm2 hres2 hb2
      go_wp2_with fail
      go_region
      go_wp2_with fail
      go_roundw
      case rel => exact ⟨k + 1, by omega, by go_num, by rw [HO.out], HN2.out, HM2.out, HSET.out, HRES2.out, HB2.out.drew⟩
      case measure => simp [intOf]; omega
    · obtain rfl : k = 8 := by omega
      rw [Nm_whole] at hrow
      have hS := nm_info (N + M)
      have hO : (Nm 0).toArray.size = (Nm (N + M)).toArray.size := rfl
      have HROW := Lib.hid hrow
      have HRES := Lib.hid hres
      have HBE := Lib.hid hbe
      have HS4 := Lib.hid hS
      have HO4 := Lib.hid hO
      clear hrow hres hbe hS hO hn hm
      go_wp2_with (first
        | (refine wpList_load_row rfl 36 (.tmp 5) rfl (w.heap.size + 1 + 1 + 1) rfl 36 _ (0, 0) _ HROW.out Tryd.underlying36 rfl HS4.out ?_)
        | (refine wpList_store_row rfl 36 (.tmp 4) (.tmp 25) rfl (w.heap.size + 1 + 1) _ rfl rfl 36 _ HRES.out HS4.out HO4.out (Nm_one _) ?_))
      have hgot := setRow_heap wr (w.heap.size + 1 + 1) _ (Nm (N + M)).toArray _ _ HRES.out
      refine bodyPost_ret (results_cell_row (by rfl) _ _ (w.heap.size + 1 + 1) _ _ _ _ (by rfl) hgot Tryd.underlying36 rfl HS4.out) rfl ?_
      exact ⟨rfl, below_setRow HBE.out (by omega) _⟩


end Go.Proofs.YtklbcpaoccdmeaaDoor
