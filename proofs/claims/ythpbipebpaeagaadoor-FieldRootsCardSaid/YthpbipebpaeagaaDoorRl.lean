/- The document's shift. -/
import Derived.Test.YthpbipebpaeagaaDoorRk
namespace Go.Proofs.YthpbipebpaeagaaDoor
set_option maxRecDepth 100000
set_option linter.unusedSimpArgs false
open Go.RowKit

set_option maxHeartbeats 6400000 in
theorem shift_ref (A n : Nat) (hA : A < W8) (hn : n < 64) (w : World) :
    Calls Tryd.prog 76 #[.agg (Nw A).toArray, .int .i64 (n : Int)] w fun e w' => e = .returned (.agg (Nw (A / 2 ^ n)).toArray) ∧ Below w.heap.size w w' := by
  have HS4 := Lib.hid nw_info
  have HN := Lib.hid hn
  have hlt : ∀ k, A / 2 ^ k < W8 := fun k => Nat.lt_of_le_of_lt (Nat.div_le_self _ _) hA
  have HLT := Lib.hid hlt
  have bn : (0 : Int) ≤ (n : Int) := by omega
  clear hA hn hlt
  go_enter Tryd.func76, Tryd.ntmps76
  go_wp2_with fail
  go_loopw [5] (fun i wr => ∃ k : Nat, k ≤ n ∧ i = .int .i64 (k : Int) ∧ Row wr w.heap.size 30 (Nw (A / 2 ^ k)) ∧ Row wr (w.heap.size + 1) 30 (Nw 0) ∧ Below w.heap.size w wr) (fun i _ => n - (intOf i).toNat)
  case atStart =>
    refine ⟨0, Nat.zero_le _, rfl, ?_, ?_, Below.alloc2 _ _ _⟩
    · rw [Nat.pow_zero, Nat.div_one]
      exact (Row.new w _ _).alloc _
    · rw [Nw_zero]
      exact Row.new1 w _ _ _
  case round =>
    obtain ⟨k, hkn, rfl, ha, hz, hbe⟩ := hrel
    by_cases hlt : k < n
    · have hhalf : A / 2 ^ k / 2 = A / 2 ^ (k + 1) := by rw [Nat.div_div_eq_div_mul, Nat.pow_succ]
      have hM : A / 2 ^ k < W8 := HLT.out k
      have HH := Lib.hid hhalf.symm
      have hk64 : (k : Int) < 64 := by have := HN.out; omega
      clear hhalf
      generalize A / 2 ^ k = M at *
      have b0 : (0 : Int) ≤ (k : Int) := by omega
      have hltI : (k : Int) < (n : Int) := by omega
      have HA := Lib.hid ha
      have HZ := Lib.hid hz
      have HBE := Lib.hid hbe
      have HM := Lib.hid hM
      clear ha hz hbe hM
      go_wp2_with fail
      obtain ⟨wo, rfl⟩ : ∃ wo, wo = wr := ⟨_, rfl⟩
      go_loopw [6, 7] (fun r i wr => ∃ j : Nat, j ≤ 8 ∧ i = .int .i64 ((j : Int) - 1) ∧ r = .int .u32 ((dw M j % 2 : Nat) : Int) ∧ Row wr w.heap.size 30 (Tabs .u32 (hf M j) 8) ∧ Row wr (w.heap.size + 1) 30 (Nw 0) ∧ Below w.heap.size w wr) (fun _ i _ => (intOf i + 1).toNat)
      case atStart => exact ⟨8, Nat.le_refl _, rfl, by rw [dw_of_lt (show M < 4294967296 ^ 8 from HM.out)]; rfl, by rw [hf_none]; exact HA.out, HZ.out, HBE.out⟩
      case round =>
        obtain ⟨j, hj8, rfl, rfl, ha, hz, hbe⟩ := hrel
        by_cases hj : j = 0
        · subst hj
          rw [hf_all] at ha
          have HA2 := Lib.hid ha
          have HZ2 := Lib.hid hz
          have HBE2 := Lib.hid hbe
          clear ha hz hbe
          rw [show (((0 : Nat) : Int) - 1) = -1 from rfl]
          generalize dw M 0 % 2 = rr at *
          go_wp2_with fail
          go_roundw
          case rel => exact ⟨k + 1, by omega, by go_num, by rw [HH.out]; exact HA2.out, HZ2.out, HBE2.out⟩
          case measure => simp [intOf] <;> omega
        · obtain ⟨i, rfl⟩ : ∃ i, j = i + 1 := ⟨j - 1, by omega⟩
          have hii : (((i + 1 : Nat) : Int) - 1) = (i : Int) := by omega
          rw [hii]
          have hi8 : i < 8 := by omega
          have hca := ha.cell (hf_at M hi8)
          have hfree := ha.free i
          have hset := hf_set M hi8 rfl
          have hst := ha.set i (.int .u32 ((dw M i / 2 + dw M (i + 1) % 2 * 2147483648 : Nat) : Int))
          rw [hset] at hst
          have hz2 := hz.setCell (p := ⟨w.heap.size, i, none⟩) (by show w.heap.size + 1 ≠ w.heap.size; omega) (.int .u32 ((dw M i / 2 + dw M (i + 1) % 2 * 2147483648 : Nat) : Int))
          have hbe2 := hbe.setCell (p := ⟨w.heap.size, i, none⟩) (Nat.le_refl _) (.int .u32 ((dw M i / 2 + dw M (i + 1) % 2 * 2147483648 : Nat) : Int))
          have lx := dw_lt M i
          have hr : dw M (i + 1) % 2 ≤ 1 := by omega
          have hrest : ((dw M i : Nat) : Int) % 2 = ((dw M i % 2 : Nat) : Int) := by omega
          generalize hv : dw M i / 2 + dw M (i + 1) % 2 * 2147483648 = v at *
          generalize hmm : dw M i % 2 = m2 at *
          generalize dw M (i + 1) % 2 = r at *
          generalize hxx : dw M i = x at *
          have HXX := Lib.hid hxx
          clear hxx
          have b0i : (0 : Int) ≤ (i : Int) := by omega
          have b1i : (i : Int) < 8 := by omega
          have hadd : (x : Int) / 2 + (r : Int) * 2147483648 = ((v : Nat) : Int) := by omega
          have HST := Lib.hid hst
          have HZ2 := Lib.hid hz2
          have HBE2 := Lib.hid hbe2
          have HREST := Lib.hid hrest
          have HADD := Lib.hid hadd
          have HM2 := Lib.hid hmm
          clear ha hz hbe hset hst hz2 hbe2 hrest hadd hv hii hmm
          go_wp2_with fail
          rw [HADD.out, HREST.out]
          go_roundw
          case rel => exact ⟨i, by omega, rfl, by rw [HXX.out, HM2.out], HST.out, HZ2.out, HBE2.out⟩
          case measure => simp [intOf] <;> omega
    · obtain rfl : k = n := by omega
      have HA := Lib.hid ha
      have HZ := Lib.hid hz
      have HBE := Lib.hid hbe
      clear ha hz hbe
      go_wp2_with (first
        | (refine wpList_load_row rfl 30 (.tmp 2) rfl w.heap.size rfl 30 _ (0, 0) _ HA.out Tryd.underlying30 rfl (HS4.out _) ?_)
        | (refine wpList_store_row rfl 30 (.tmp 4) (.tmp 32) rfl (w.heap.size + 1) _ rfl rfl 30 _ HZ.out (HS4.out _) (Nw_sz _ _) (Nw_one _) ?_))
      have hgot := setRow_heap wr (w.heap.size + 1) _ (Nw (A / 2 ^ k)).toArray _ _ HZ.out
      refine bodyPost_ret (results_cell_row (by rfl) _ _ (w.heap.size + 1) _ _ _ _ (by rfl) hgot Tryd.underlying30 rfl (HS4.out _)) rfl ?_
      exact ⟨rfl, below_setRow HBE.out (by omega) _⟩

end Go.Proofs.YthpbipebpaeagaaDoor
