/- order's number.times. -/
import Derived.Test.YtklbcpaoccdmeaaDoorMul
import Derived.Deep.QuietTactic
import Derived.BigQuiet
import Derived.Deep.LoopGhost
import Derived.Laws.BitsAllLaws
import Derived.Deep.CutRange
import Derived.Deep.CutBlock
import Derived.RegionTactic
import Derived.Lib.Hide
import Derived.IntWalk
namespace Go.Proofs.YtklbcpaoccdmeaaDoor
set_option maxRecDepth 100000
open Go.RowKit

set_option maxHeartbeats 3200000 in
theorem times_any (N M : Nat) (hN : N < M64 4) (hM : M < M64 4) (w : World) :
    Calls Tryd.prog 26 #[.agg (Nm N).toArray, .agg (Nm M).toArray] w fun e w' => e = .returned (.agg (Nm (N * M)).toArray) ∧ Below w.heap.size w w' := by
  have HM := Lib.hid hM
  have HN := Lib.hid hN
  clear hN hM
  go_enter Tryd.func26, Tryd.ntmps26
  go_wp2_with fail
  go_loopw [12] (fun i wr => ∃ k : Nat, k ≤ 4 ∧ i = .int .i64 k ∧ Row wr w.heap.size 36 (Nm N) ∧ Row wr (w.heap.size + 1) 36 (Nm M) ∧ Row wr (w.heap.size + 1 + 1 + 1) 36 (Nm (N % M64 k * M)) ∧ Row wr (w.heap.size + 1 + 1) 36 (Nm 0) ∧ Below w.heap.size w wr) (fun i _ => 4 - (intOf i).toNat)
  case atStart =>
    refine ⟨0, Nat.zero_le _, rfl, (((Row.new w _ _).alloc _).alloc _).alloc _, ((Row.new1 w _ _ _).alloc _).alloc _, ?_, ?_, Below.alloc4 _ _ _ _ _⟩
    · have e : N % M64 0 * M = 0 := by rw [show N % M64 0 = 0 from Nat.mod_one _, Nat.zero_mul]
      rw [e, Nm_zero]
      exact Row.new3 w _ _ _ _ _
    · rw [Nm_zero]
      exact (Row.new2 w _ _ _ _).alloc _
  case round =>
    obtain ⟨k, hkn, rfl, hn, hm, hrow, hres, hbe⟩ := hrel
    by_cases hlt : k < 4
    · have bk0 : (0 : Int) ≤ (k : Int) := by omega
      have bk1 : (k : Int) < 4 := by omega
      have HN0 := Lib.hid hn
      have HM0 := Lib.hid hm
      have HROW0 := Lib.hid hrow
      have HRES0 := Lib.hid hres
      have HBE0 := Lib.hid hbe
      clear hn hm hrow hres hbe
      go_wp2_with fail
      obtain ⟨wo, rfl⟩ : ∃ wo, wo = wr := ⟨_, rfl⟩
      go_loopw [7, 15] (fun o j wr => ∃ m c V : Nat, m ≤ 4 ∧ j = .int .i64 m ∧ o = .int .u64 (c : Int) ∧ c < 18446744073709551616 ∧ V < M64 (k + 4) ∧ V + c * M64 (k + m) = N % M64 k * M + wd N k * (M % M64 m) * M64 k ∧ Row wr w.heap.size 36 (Nm N) ∧ Row wr (w.heap.size + 1) 36 (Nm M) ∧ Row wr (w.heap.size + 1 + 1 + 1) 36 (Nm V) ∧ Row wr (w.heap.size + 1 + 1) 36 (Nm 0) ∧ Below w.heap.size w wr) (fun _ j _ => 4 - (intOf j).toNat)
      case atStart =>
        refine ⟨0, 0, N % M64 k * M, Nat.zero_le _, rfl, rfl, by decide, mul_lt HM.out, ?_, HN0.out, HM0.out, HROW0.out, HRES0.out, HBE0.out⟩
        rw [show M % M64 0 = 0 from Nat.mod_one _]
        simp
      case round =>
        obtain ⟨m, c, V, hmn, rfl, rfl, hc64, hV, hi, hn, hm, hrow, hres, hbe⟩ := hrel
        by_cases hltm : m < 4
        · have hcn := hn.cell (Nm_get N (k := k) (by omega))
          have hcm := hm.cell (Nm_get M (k := m) (by omega))
          have hold := hrow.cell (Nm_get V (k := k + m) (by omega))
          have hfree := hrow.free (k + m)
          have hset := fun x (hx : x < 18446744073709551616) => Nm_set V (k := k + m) (by omega) hx ▸ hrow.set (k + m) (.int .u64 ((x : Nat) : Int))
          have hn2 := fun x => hn.setCell (p := ⟨w.heap.size + 1 + 1 + 1, k + m, none⟩) (by show _ ≠ w.heap.size + 1 + 1 + 1; omega) (.int .u64 ((x : Nat) : Int))
          have hm2 := fun x => hm.setCell (p := ⟨w.heap.size + 1 + 1 + 1, k + m, none⟩) (by show _ ≠ w.heap.size + 1 + 1 + 1; omega) (.int .u64 ((x : Nat) : Int))
          have hres2 := fun x => hres.setCell (p := ⟨w.heap.size + 1 + 1 + 1, k + m, none⟩) (by show _ ≠ w.heap.size + 1 + 1 + 1; omega) (.int .u64 ((x : Nat) : Int))
          have hb2 := fun x => hbe.setCell (p := ⟨w.heap.size + 1 + 1 + 1, k + m, none⟩) (by simp; omega) (.int .u64 ((x : Nat) : Int))
          have la := wd_lt N k
          have lb := wd_lt M m
          have lv := wd_lt V (k + m)
          have hmul := mul64n (wd N k) (wd M m) la lb
          have hst := mul_step (high := wd N k * wd M m / 18446744073709551616) (low := wd N k * wd M m % 18446744073709551616) la lb hc64 lv rfl rfl rfl rfl
          have hin := fun s d hs => mul_inner (N := N) (M := M) (V := V) (k := k) (j := m) (c := c) (s := s) (d := d) hV hltm hs hi
          generalize wd N k = a at *
          generalize wd M m = b at *
          generalize wd V (k + m) = v at *
          have lhi : a * b / 18446744073709551616 < 18446744073709551616 := by omega
          have llo : a * b % 18446744073709551616 < 18446744073709551616 := Nat.mod_lt _ (by decide)
          generalize a * b / 18446744073709551616 = high at *
          generalize a * b % 18446744073709551616 = low at *
          have hadd1 := add64z low v ((low + v) % 18446744073709551616) ((low + v) / 18446744073709551616) rfl rfl
          have hadd2 := add64z ((low + v) % 18446744073709551616) c (((low + v) % 18446744073709551616 + c) % 18446744073709551616) (((low + v) % 18446744073709551616 + c) / 18446744073709551616) rfl rfl
          generalize (low + v) % 18446744073709551616 = l1 at *
          generalize (low + v) / 18446744073709551616 = one at *
          have ls : (l1 + c) % 18446744073709551616 < 18446744073709551616 := Nat.mod_lt _ (by decide)
          generalize (l1 + c) % 18446744073709551616 = s at *
          generalize (l1 + c) / 18446744073709551616 = d at *
          have bm0 : (0 : Int) ≤ (m : Int) := by omega
          have bm1 : (m : Int) < 4 := by omega
          have hst1 := hst.1
          have w1 : IntKind.u64.wrap ((high : Int) + (one : Int)) = ((high + one : Nat) : Int) := by rw [IntKind.wrap_u64]; omega
          have w2 : IntKind.u64.wrap ((d : Int) + ((high + one : Nat) : Int)) = ((d + high + one : Nat) : Int) := by rw [IntKind.wrap_u64]; omega
          have HIN := Lib.hid (hin s (d + high + one) ls hst.2)
          have HC := Lib.hid hst1
          have HSET := Lib.hid (hset s ls)
          have HN2 := Lib.hid (hn2 s)
          have HM2 := Lib.hid (hm2 s)
          have HRES2 := Lib.hid (hres2 s)
          have HB2 := Lib.hid (hb2 s)
          have HMUL := Lib.hid hmul
          clear hn hm hrow hres hbe hset hn2 hm2 hres2 hb2 hi hst hst1 hin hmul
          go_wp2_with fail
          go_quiet ((go_at_call 32; exact Calls.quiet_of_same (HMUL.out _)))
          go_wp2_with fail
          go_roundw
          case rel =>
            refine ⟨m + 1, d + high + one, putw V (k + m) s, by omega, by go_num, ?_, HC.out, HIN.out.1, HIN.out.2, HN2.out, HM2.out, HSET.out, HRES2.out, ⟨HB2.out.os, HB2.out.tape, HB2.out.output, HB2.out.size, HB2.out.block⟩⟩
            first | rfl | (congr 1; done) | (congr 1; omega)
          case measure => simp [intOf]; omega
        · obtain rfl : m = 4 := by omega
          have hold := hrow.cell (Nm_get V (k := k + 4) (by omega))
          have hfree := hrow.free (k + 4)
          have hset := hrow.set (k + 4) (.int .u64 ((c : Nat) : Int))
          rw [Nm_set V (by omega) hc64, mul_outer hV HM.out hi] at hset
          have hn2 := hn.setCell (p := ⟨w.heap.size + 1 + 1 + 1, k + 4, none⟩) (by show _ ≠ w.heap.size + 1 + 1 + 1; omega) (.int .u64 ((c : Nat) : Int))
          have hm2 := hm.setCell (p := ⟨w.heap.size + 1 + 1 + 1, k + 4, none⟩) (by show _ ≠ w.heap.size + 1 + 1 + 1; omega) (.int .u64 ((c : Nat) : Int))
          have hres2 := hres.setCell (p := ⟨w.heap.size + 1 + 1 + 1, k + 4, none⟩) (by show _ ≠ w.heap.size + 1 + 1 + 1; omega) (.int .u64 ((c : Nat) : Int))
          have hb2 := hbe.setCell (p := ⟨w.heap.size + 1 + 1 + 1, k + 4, none⟩) (by simp; omega) (.int .u64 ((c : Nat) : Int))
          have HSET := Lib.hid hset
          have HN2 := Lib.hid hn2
          have HM2 := Lib.hid hm2
          have HRES2 := Lib.hid hres2
          have HB2 := Lib.hid hb2
          clear hn hm hrow hres hbe hset hn2 hm2 hres2 hb2 hi
          generalize wd V (k + 4) = z at *
          go_wp2_with fail
          go_roundw
          case rel => exact ⟨k + 1, by omega, by go_num, HN2.out, HM2.out, HSET.out, HRES2.out, HB2.out⟩
          case measure => simp [intOf]; omega
    · obtain rfl : k = 4 := by omega
      rw [Nat.mod_eq_of_lt HN.out] at hrow
      have hS := nm_info (N * M)
      have hO : (Nm 0).toArray.size = (Nm (N * M)).toArray.size := rfl
      have HROW := Lib.hid hrow
      have HRES := Lib.hid hres
      have HBE := Lib.hid hbe
      have HS4 := Lib.hid hS
      have HO4 := Lib.hid hO
      clear hrow hres hbe hS hO hn hm
      go_wp2_with (first
        | (refine wpList_load_row rfl 36 (.tmp 5) rfl (w.heap.size + 1 + 1 + 1) rfl 36 _ (0, 0) _ HROW.out Tryd.underlying36 rfl HS4.out ?_)
        | (refine wpList_store_row rfl 36 (.tmp 4) (.tmp 59) rfl (w.heap.size + 1 + 1) _ rfl rfl 36 _ HRES.out HS4.out HO4.out (Nm_one _) ?_))
      have hgot := setRow_heap wr (w.heap.size + 1 + 1) _ (Nm (N * M)).toArray _ _ HRES.out
      refine bodyPost_ret (results_cell_row (by rfl) _ _ (w.heap.size + 1 + 1) _ _ _ _ (by rfl) hgot Tryd.underlying36 rfl HS4.out) rfl ?_
      exact ⟨rfl, below_setRow HBE.out (by omega) _⟩

end Go.Proofs.YtklbcpaoccdmeaaDoor
