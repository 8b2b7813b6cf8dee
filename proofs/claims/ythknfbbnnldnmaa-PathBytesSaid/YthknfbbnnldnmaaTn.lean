/- Whether a text is a name: the document's Name, the program's. -/
import Derived.Test.YthknfbbnnldnmaaTw
import Derived.Test.YthknfbbnnldnmaaGives
namespace Go.Proofs.Ythknfbbnnldnmaa
set_option maxRecDepth 100000
set_option linter.unusedSimpArgs false
set_option linter.unusedVariables false
open Go.RowKit

theorem sat_lt (s : ByteArray) (i : Nat) : sat s i < 256 := UInt8.toNat_lt _
theorem sat_run (s : ByteArray) (i : Nat) (hi : i < s.size) (w : World) : (Instr.index 9 (.string s) (.int .i64 (i : Int))).run Try.prog w = .ok (.int .u8 ((sat s i : Nat) : Int)) w := by
  rw [run_index_string w 9 s .i64 (i : Int) Try.underlying9]
  simp [sat, hi]
  rfl
def lets (s : ByteArray) (n : Nat) : Bool := (List.range n).all fun i => letB (sat s i)
theorem lets_more (s : ByteArray) (n : Nat) : lets s (n + 1) = (lets s n && letB (sat s n)) := by
  unfold lets
  rw [List.range_succ, List.all_append]
  simp
theorem lets_no {s : ByteArray} {n m : Nat} (h : letB (sat s n) = false) (hm : n < m) : lets s m = false := by
  unfold lets
  rw [← Bool.not_eq_true, List.all_eq_true]
  intro hall
  rw [hall n (List.mem_range.2 hm)] at h
  cases h
theorem name_lets (s : ByteArray) : nameB s = (decide (1 ≤ s.size) && decide (s.size ≤ 12) && lets s s.size) := rfl
theorem letB_iff (c : Nat) : letB c = true ↔ (97 ≤ c ∧ c ≤ 122) ∨ (48 ≤ c ∧ c ≤ 57) ∨ c = 95 := by
  unfold letB
  simp only [Bool.or_eq_true, Bool.and_eq_true, decide_eq_true_eq, or_assoc]

set_option maxHeartbeats 1600000 in
theorem rname_ref (s : ByteArray) (hs : s.size ≤ maxLen) (w : World) :
    Calls Try.prog 23 #[.string s] w fun e w' => e = .returned (.bool (nameB s)) ∧ w' = w := by
  have hsz : (s.size : Int) ≤ 9223372036854775807 := by unfold maxLen at hs; omega
  clear hs
  go_enter Try.func23, Try.ntmps23
  go_wp2_with fail
  go_loopw [3] (fun i wr => ∃ j : Nat, j ≤ s.size ∧ i = .int .i64 (j : Int) ∧ lets s j = true ∧ wr = w) (fun i _ => s.size - (intOf i).toNat)
  case atStart => exact ⟨0, Nat.zero_le _, rfl, rfl, rfl⟩
  case round =>
    obtain ⟨j, hjn, rfl, hall, rfl⟩ := hrel
    have bj0 : (0 : Int) ≤ (j : Int) := by omega
    by_cases hj : j < s.size
    · have hji : (j : Int) < (s.size : Int) := by omega
      have hlt := sat_lt s j
      have HIX := Lib.hid (sat_run s j hj wr)
      have HM := Lib.hid (lets_more s j)
      have HNO := Lib.hid (fun h => lets_no (s := s) (n := j) (m := s.size) h hj)
      have HA := Lib.hid hall
      have HNL := Lib.hid (name_lets s)
      clear hall
      generalize sat s j = c at *
      by_cases h97 : 97 ≤ c
      · have g97 : (97 : Int) ≤ (c : Int) := by omega
        by_cases h122 : c ≤ 122
        · skip
          have g122 : (c : Int) ≤ 122 := by omega
          go_wp2_with (refine wpList_index rfl 9 (.tmp 11) (.tmp 12) rfl _ _ _ rfl rfl HIX.out ?_)
          go_roundw
          case rel => exact ⟨j + 1, by omega, by go_num, by rw [HM.out, HA.out, (letB_iff _).2 (by omega)]; rfl, by first | rfl | trivial⟩
          case measure => simp [intOf] <;> omega
        · skip
          have g122 : ¬ (c : Int) ≤ 122 := by omega
          have g48 : (48 : Int) ≤ (c : Int) := by omega
          have g57 : ¬ (c : Int) ≤ 57 := by omega
          have g95 : ¬ (c : Int) = 95 := by omega
          have g95b : ((c : Int) == 95) = false := beq_eq_false_iff_ne.2 g95
          go_wp2_with (refine wpList_index rfl 9 (.tmp 11) (.tmp 12) rfl _ _ _ rfl rfl HIX.out ?_)
          go_ret
          refine ⟨?_, rfl⟩
          show Ending.returned (Value.bool false) = _
          rw [HNL.out, HNO.out ((Bool.not_eq_true _).mp (fun h => by have := (letB_iff c).1 h; omega)), Bool.and_false]
      · have g97 : ¬ (97 : Int) ≤ (c : Int) := by omega
        by_cases h48 : 48 ≤ c
        · have g48 : (48 : Int) ≤ (c : Int) := by omega
          by_cases h57 : c ≤ 57
          · skip
            have g57 : (c : Int) ≤ 57 := by omega
            go_wp2_with (refine wpList_index rfl 9 (.tmp 11) (.tmp 12) rfl _ _ _ rfl rfl HIX.out ?_)
            go_roundw
            case rel => exact ⟨j + 1, by omega, by go_num, by rw [HM.out, HA.out, (letB_iff _).2 (by omega)]; rfl, by first | rfl | trivial⟩
            case measure => simp [intOf] <;> omega
          · have g57 : ¬ (c : Int) ≤ 57 := by omega
            by_cases h95 : c = 95
            · skip
              obtain rfl : c = 95 := h95
              go_wp2_with (refine wpList_index rfl 9 (.tmp 11) (.tmp 12) rfl _ _ _ rfl rfl HIX.out ?_)
              go_roundw
              case rel => exact ⟨j + 1, by omega, by go_num, by rw [HM.out, HA.out, (letB_iff _).2 (by omega)]; rfl, by first | rfl | trivial⟩
              case measure => simp [intOf] <;> omega
            · skip
              have g95 : ¬ (c : Int) = 95 := by omega
              have g95b : ((c : Int) == 95) = false := beq_eq_false_iff_ne.2 g95
              go_wp2_with (refine wpList_index rfl 9 (.tmp 11) (.tmp 12) rfl _ _ _ rfl rfl HIX.out ?_)
              go_ret
              refine ⟨?_, rfl⟩
              show Ending.returned (Value.bool false) = _
              rw [HNL.out, HNO.out ((Bool.not_eq_true _).mp (fun h => by have := (letB_iff c).1 h; omega)), Bool.and_false]
        · skip
          have g48 : ¬ (48 : Int) ≤ (c : Int) := by omega
          have g95 : ¬ (c : Int) = 95 := by omega
          have g95b : ((c : Int) == 95) = false := beq_eq_false_iff_ne.2 g95
          go_wp2_with (refine wpList_index rfl 9 (.tmp 11) (.tmp 12) rfl _ _ _ rfl rfl HIX.out ?_)
          go_ret
          refine ⟨?_, rfl⟩
          show Ending.returned (Value.bool false) = _
          rw [HNL.out, HNO.out ((Bool.not_eq_true _).mp (fun h => by have := (letB_iff c).1 h; omega)), Bool.and_false]
    · obtain rfl : j = s.size := by omega
      have hnl := name_lets s
      rw [hall, Bool.and_true] at hnl
      have HNL := Lib.hid hnl
      clear hnl hall
      by_cases h1 : 1 ≤ s.size
      · have g1 : (1 : Int) ≤ (s.size : Int) := by omega
        by_cases h12 : s.size ≤ 12
        · have g12 : (s.size : Int) ≤ 12 := by omega
          go_wp2_with fail
          go_ret
          refine ⟨?_, rfl⟩
          show Ending.returned (Value.bool true) = _
          rw [HNL.out, decide_eq_true h1, decide_eq_true h12]
          rfl
        · have g12 : ¬ (s.size : Int) ≤ 12 := by omega
          go_wp2_with fail
          go_ret
          refine ⟨?_, rfl⟩
          show Ending.returned (Value.bool false) = _
          rw [HNL.out, decide_eq_true h1, decide_eq_false h12]
          rfl
      · have g1 : ¬ (1 : Int) ≤ (s.size : Int) := by omega
        go_wp2_with fail
        go_ret
        refine ⟨?_, rfl⟩
        show Ending.returned (Value.bool false) = _
        rw [HNL.out, decide_eq_false h1]
        rfl

end Go.Proofs.Ythknfbbnnldnmaa
