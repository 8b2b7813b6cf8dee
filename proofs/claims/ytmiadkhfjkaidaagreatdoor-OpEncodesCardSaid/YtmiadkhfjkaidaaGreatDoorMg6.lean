/- The program's names and numbers: letter, Name, follows, Right; Index, Contains, fresh, elements. -/
import Derived.Test.YtmiadkhfjkaidaaGreatDoorMg5
namespace Go.Proofs.YtmiadkhfjkaidaaGreatDoor
section
set_option maxRecDepth 100000
set_option linter.unusedSimpArgs false
set_option linter.unusedVariables false
open Go.RowKit

theorem letter_any (c : Nat) (hc : c < 256) (w : World) : Calls Tryz.prog 185 #[.int .u8 (c : Int)] w fun e w' => e = .returned (.bool (letB c)) ∧ w' = w := by
  have hb := letB_iff c
  obtain ⟨b, hbb⟩ : ∃ b, letB c = b := ⟨_, rfl⟩
  rw [hbb] at hb ⊢
  have HB := Lib.hid hb
  clear hb hbb
  by_cases h97 : 97 ≤ c
  · have g97 : (97 : Int) ≤ (c : Int) := by omega
    by_cases h122 : c ≤ 122
    · skip
      have g122 : (c : Int) ≤ 122 := by omega
      go_enter Tryz.func185, Tryz.ntmps185
      go_wp2_with fail
      go_ret
      refine ⟨?_, rfl⟩
      show Ending.returned (Value.bool true) = _
      rw [HB.out.2 (by omega)]
    · skip
      have g122 : ¬ (c : Int) ≤ 122 := by omega
      have g48 : (48 : Int) ≤ (c : Int) := by omega
      have g57 : ¬ (c : Int) ≤ 57 := by omega
      have g95 : ¬ (c : Int) = 95 := by omega
      have g95b : ((c : Int) == 95) = false := beq_eq_false_iff_ne.2 g95
      go_enter Tryz.func185, Tryz.ntmps185
      go_wp2_with fail
      go_ret
      refine ⟨?_, rfl⟩
      show Ending.returned (Value.bool false) = _
      have hbf : b = false := (Bool.not_eq_true _).mp (fun h => by have := HB.out.1 h; omega)
      rw [hbf]
  · have g97 : ¬ (97 : Int) ≤ (c : Int) := by omega
    by_cases h48 : 48 ≤ c
    · have g48 : (48 : Int) ≤ (c : Int) := by omega
      by_cases h57 : c ≤ 57
      · skip
        have g57 : (c : Int) ≤ 57 := by omega
        go_enter Tryz.func185, Tryz.ntmps185
        go_wp2_with fail
        go_ret
        refine ⟨?_, rfl⟩
        show Ending.returned (Value.bool true) = _
        rw [HB.out.2 (by omega)]
      · have g57 : ¬ (c : Int) ≤ 57 := by omega
        by_cases h95 : c = 95
        · skip
          have g95 : (c : Int) = 95 := by omega
          have g95b : ((c : Int) == 95) = true := beq_iff_eq.2 g95
          go_enter Tryz.func185, Tryz.ntmps185
          go_wp2_with fail
          go_ret
          refine ⟨?_, rfl⟩
          show Ending.returned (Value.bool true) = _
          rw [HB.out.2 (by omega)]
        · skip
          have g95 : ¬ (c : Int) = 95 := by omega
          have g95b : ((c : Int) == 95) = false := beq_eq_false_iff_ne.2 g95
          go_enter Tryz.func185, Tryz.ntmps185
          go_wp2_with fail
          go_ret
          refine ⟨?_, rfl⟩
          show Ending.returned (Value.bool false) = _
          have hbf : b = false := (Bool.not_eq_true _).mp (fun h => by have := HB.out.1 h; omega)
          rw [hbf]
    · skip
      have g48 : ¬ (48 : Int) ≤ (c : Int) := by omega
      have g95 : ¬ (c : Int) = 95 := by omega
      have g95b : ((c : Int) == 95) = false := beq_eq_false_iff_ne.2 g95
      go_enter Tryz.func185, Tryz.ntmps185
      go_wp2_with fail
      go_ret
      refine ⟨?_, rfl⟩
      show Ending.returned (Value.bool false) = _
      have hbf : b = false := (Bool.not_eq_true _).mp (fun h => by have := HB.out.1 h; omega)
      rw [hbf]
theorem calls_same {P : Program} {f : FuncId} {args : Array Value} {w : World} {v : Value} (h : Calls P f args w fun e w' => e = .returned v ∧ w' = w) : Calls P f args w fun e w' => e = .returned v ∧ Below w.heap.size w w' :=
  h.mono fun _ _ he => ⟨he.1, he.2 ▸ Below.refl _ _⟩

theorem name_any (s : ByteArray) (hs : s.size ≤ maxLen) (w : World) :
    Calls Tryz.prog 160 #[.string s] w fun e w' => e = .returned (.bool (nameB s)) ∧ w' = w := by
  have hnl := name_lets s
  by_cases h0 : s.size = 0
  · have g0 : (s.size : Int) = 0 := by omega
    rw [decide_eq_false (show ¬ 1 ≤ s.size by omega)] at hnl
    have HNL := Lib.hid hnl
    clear hnl hs
    go_enter Tryz.func160, Tryz.ntmps160
    go_wp2_with fail
    go_ret
    refine ⟨?_, rfl⟩
    show Ending.returned (Value.bool false) = _
    rw [HNL.out]
    rfl
  · have g0 : ¬ (s.size : Int) = 0 := by omega
    have g0b : ((s.size : Int) == 0) = false := beq_eq_false_iff_ne.2 g0
    by_cases h12 : s.size ≤ 12
    · have g12 : ¬ (s.size : Int) > 12 := by omega
      have g12b : (s.size : Int) ≤ 12 := by omega
      rw [decide_eq_true (show 1 ≤ s.size by omega), decide_eq_true h12, Bool.true_and, Bool.true_and] at hnl
      have HNL := Lib.hid hnl
      clear hnl hs
      go_enter Tryz.func160, Tryz.ntmps160
      go_wp2_with fail
      go_loopw [14] (fun i wr => ∃ j : Nat, j ≤ s.size ∧ i = .int .i64 (j : Int) ∧ lets s j = true ∧ wr = w) (fun i _ => s.size - (intOf i).toNat)
      case atStart => exact ⟨0, Nat.zero_le _, rfl, rfl, rfl⟩
      case round =>
        obtain ⟨j, hjn, rfl, hall, rfl⟩ := hrel
        have bj0 : (0 : Int) ≤ (j : Int) := by omega
        by_cases hj : j < s.size
        · have hji : (j : Int) < (s.size : Int) := by omega
          have hlt := sat_lt s j
          have HIX := Lib.hid (sat_run s j hj wr)
          have hm := lets_more s j
          rw [hall, Bool.true_and] at hm
          have HM := Lib.hid hm
          have HNO := Lib.hid (fun h => lets_no (s := s) (n := j) (m := s.size) h hj)
          have HLT := Lib.hid (letter_any (sat s j) hlt wr)
          clear hall hm
          generalize sat s j = c at *
          generalize hlc : letB c = b at *
          clear hlc
          cases b
          · skip
            go_wp2_with (refine wpList_index rfl 9 (.tmp 17) (.tmp 18) rfl _ _ _ rfl rfl HIX.out ?_)
            refine HLT.out.mono ?_
            rintro e w' ⟨rfl, rfl⟩
            go_wp2_with fail
            go_ret
            refine ⟨?_, rfl⟩
            show Ending.returned (Value.bool false) = _
            rw [HNL.out, HNO.out trivial]
          · skip
            go_wp2_with (refine wpList_index rfl 9 (.tmp 17) (.tmp 18) rfl _ _ _ rfl rfl HIX.out ?_)
            refine HLT.out.mono ?_
            rintro e w' ⟨rfl, rfl⟩
            go_wp2_with fail
            go_roundw
            case rel => exact ⟨j + 1, by omega, by go_num, HM.out, by first | rfl | trivial⟩
            case measure => simp [intOf] <;> omega
        · obtain rfl : j = s.size := by omega
          have HA := Lib.hid hall
          clear hall
          go_wp2_with fail
          go_ret
          refine ⟨?_, rfl⟩
          show Ending.returned (Value.bool true) = _
          rw [HNL.out, HA.out]
    · have g12 : (s.size : Int) > 12 := by omega
      have g12b : ¬ (s.size : Int) ≤ 12 := by omega
      rw [decide_eq_false h12] at hnl
      have HNL := Lib.hid hnl
      clear hnl hs
      go_enter Tryz.func160, Tryz.ntmps160
      go_wp2_with fail
      go_ret
      refine ⟨?_, rfl⟩
      show Ending.returned (Value.bool false) = _
      rw [HNL.out, Bool.and_false]
      rfl
theorem vname_any (s : ByteArray) (hs : s.size ≤ maxLen) (w : World) :
    Calls Tryz.prog 119 #[.string s] w fun e w' => e = .returned (.bool (nameB s)) ∧ w' = w := by
  have HN := Lib.hid (name_any s hs w)
  go_enter Tryz.func119, Tryz.ntmps119
  go_wp2_with fail
  refine HN.out.mono ?_
  rintro e w' ⟨rfl, rfl⟩
  go_wp2_with fail
  go_ret
  exact ⟨rfl, rfl⟩
end

end Go.Proofs.YtmiadkhfjkaidaaGreatDoor
