/- order's number.bytes. -/
import Derived.Test.YtklbcpaoccdmeaaDoorCar
import Derived.Laws.BitsAllLaws
import Derived.Deep.CutRange
import Derived.Deep.CutBlock
import Derived.RegionTactic
import Derived.Lib.Hide
import Derived.IntWalk
namespace Go.Proofs.YtklbcpaoccdmeaaDoor
set_option maxRecDepth 100000
open Go.RowKit

theorem byt_run (N k : Nat) : IntKind.u8.wrap (((wd N (k / 8) : Nat) : Int) / 2 ^ (8 * (k % 8))) = ((byt N k : Nat) : Int) := by
  rw [← wd_byt]
  have e : ((wd N (k / 8) : Nat) : Int) / 2 ^ (8 * (k % 8)) = ((wd N (k / 8) / 2 ^ (8 * (k % 8)) : Nat) : Int) := by simp
  rw [e]
  generalize wd N (k / 8) / 2 ^ (8 * (k % 8)) = y
  show IntKind.u8.wrap (y : Int) = _
  rw [IntKind.wrap_u8]
  omega
theorem By_set (N n : Nat) {k : Nat} (hk : k < n) : (Tab .u8 (byt N) n k).set k (.int .u8 ((byt N k : Nat) : Int)) = Tab .u8 (byt N) n (k + 1) := Tab_set _ _ _ hk

set_option maxHeartbeats 800000 in
theorem bytes_any (N : Nat) (w : World) :
    Calls Tryd.prog 19 #[.agg (Nm N).toArray] w fun e w' => e = .returned (.agg (By N 32).toArray) ∧ Below w.heap.size w w' := by
  go_enter Tryd.func19, Tryd.ntmps19
  go_wp2_with fail
  go_loopw [5] (fun i wr => ∃ k : Nat, k ≤ 32 ∧ i = .int .i64 k ∧ Row wr w.heap.size 36 (Nm N) ∧ Row wr (w.heap.size + 1 + 1) 23 (Tab .u8 (byt N) 32 k) ∧ Row wr (w.heap.size + 1) 23 (Tab .u8 (byt N) 32 0) ∧ Below w.heap.size w wr) (fun i _ => 32 - (intOf i).toNat)
  case atStart =>
    refine ⟨0, Nat.zero_le _, rfl, ((Row.new w _ _).alloc _).alloc _, ?_, ?_, Below.alloc3 _ _ _ _⟩
    · rw [Tab_zero]
      exact Row.new2 w _ _ (List.replicate 32 (.int .u8 0)) _
    · rw [Tab_zero]
      exact (Row.new1 w _ (List.replicate 32 (.int .u8 0)) _).alloc _
  case round =>
    obtain ⟨k, hkn, rfl, hn, hrow, hres, hbe⟩ := hrel
    by_cases hlt : k < 32
    · have hcell := hn.cell (Nm_get N (k := k / 8) (by omega))
      have hfree := hrow.free k
      have hold := hrow.cell (Tab_get .u8 (byt N) 32 k hlt)
      have hset := hrow.set k (.int .u8 ((byt N k : Nat) : Int))
      rw [By_set N 32 hlt] at hset
      have hn2 := hn.setCell (p := ⟨w.heap.size + 1 + 1, k, none⟩) (by simp; omega) (.int .u8 ((byt N k : Nat) : Int))
      have hres2 := hres.setCell (p := ⟨w.heap.size + 1 + 1, k, none⟩) (by simp) (.int .u8 ((byt N k : Nat) : Int))
      have hb2 := hbe.setCell (p := ⟨w.heap.size + 1 + 1, k, none⟩) (by simp; omega) (.int .u8 ((byt N k : Nat) : Int))
      have hrun := byt_run N k
      have hd : (k : Int) / 8 = ((k / 8 : Nat) : Int) := by omega
      have hm : (k : Int) % 8 = ((k % 8 : Nat) : Int) := by omega
      have hi8 : k / 8 < 8 := by omega
      have hj8 : k % 8 < 8 := by omega
      generalize wd N (k / 8) = x at *
      generalize byt N k = y at *
      generalize k / 8 = i at *
      generalize k % 8 = j at *
      have b0 : (0 : Int) ≤ (i : Int) := by omega
      have b1 : (i : Int) < 8 := by omega
      have b2 : (0 : Int) ≤ 8 * (j : Int) := by omega
      have b3 : 8 * (j : Int) < 64 := by omega
      have HSET := Lib.hid hset
      have HN2 := Lib.hid hn2
      have HRES2 := Lib.hid hres2
      have HB2 := Lib.hid hb2
      clear hn hrow hres hbe hset hn2 hres2 hb2
      go_wp2_with fail
      go_roundw
      case rel => exact ⟨k + 1, by omega, by go_num, HN2.out, HSET.out, HRES2.out, HB2.out⟩
      case measure => simp [intOf]; omega
    · obtain rfl : k = 32 := by omega
      rw [Tab_done] at hrow
      rw [Tab_zero] at hres
      have hS := by_info N
      have hO : (List.replicate 32 (Value.int .u8 0)).toArray.size = (By N 32).toArray.size := by rw [List.size_toArray, List.size_toArray, By_length, List.length_replicate]
      have hrow2 : Row wr (w.heap.size + 1 + 1) 23 (By N 32) := hrow
      have HROW := Lib.hid hrow2
      have HRES := Lib.hid hres
      have HBE := Lib.hid hbe
      have HS4 := Lib.hid hS
      have HO4 := Lib.hid hO
      clear hrow hrow2 hres hbe hS hO hn
      go_wp2_with (first
        | (refine wpList_load_row rfl 23 (.tmp 3) rfl (w.heap.size + 1 + 1) rfl 23 _ (0, 0) _ HROW.out Tryd.underlying23 rfl HS4.out ?_)
        | (refine wpList_store_row rfl 23 (.tmp 2) (.tmp 20) rfl (w.heap.size + 1) _ rfl rfl 23 _ HRES.out HS4.out HO4.out (By_one _ _) ?_))
      have hgot := setRow_heap wr (w.heap.size + 1) _ (By N 32).toArray _ _ HRES.out
      refine bodyPost_ret (results_cell_row (by rfl) _ _ (w.heap.size + 1) _ _ _ _ (by rfl) hgot Tryd.underlying23 rfl HS4.out) rfl ?_
      exact ⟨rfl, below_setRow HBE.out (by omega) _⟩

end Go.Proofs.YtklbcpaoccdmeaaDoor
