/- Which paths are right: the program's, the document's; for any path. -/
import Derived.Test.YthknfbbnnldnmaaSt
namespace Go.Proofs.Ythknfbbnnldnmaa
set_option maxRecDepth 100000
set_option linter.unusedSimpArgs false
set_option linter.unusedVariables false
open Go.RowKit

def stB (x : Stp) : Bool := (nameB x.s && x.id == 0) || (decide (x.s.size = 0) && x.id != 0)
def rightP (l : List Stp) : Bool := decide (l.length ≤ 8) && (List.range l.length).all fun i => stB (stp l i)
theorem empty_of {s : ByteArray} (h : s.size = 0) : s = ByteArray.empty := by
  obtain ⟨⟨d⟩⟩ := s
  cases d with
  | nil => rfl
  | cons x d => simp [ByteArray.size] at h
theorem name_size {s : ByteArray} (h : nameB s = true) : s.size ≠ 0 ∧ s.size ≤ 12 := by
  rw [name_lets, Bool.and_eq_true, Bool.and_eq_true] at h
  have h1 := of_decide_eq_true h.1.1
  have h2 := of_decide_eq_true h.1.2
  omega
theorem isEmpty_ne {s : ByteArray} (h : s.size ≠ 0) : s.toList.isEmpty = false := by
  have h2 : s.toList.length = s.size := by rw [ByteArray.toList_eq]; simp
  cases hs : s.toList with
  | nil => rw [hs] at h2; exact absurd h2.symm h
  | cons x l => rfl
theorem toList_ne {s : ByteArray} (h : s.size ≠ 0) : ¬ s.toList = [] := fun e => h (by
  have h2 : s.toList.length = s.size := by rw [ByteArray.toList_eq]; simp
  rw [e] at h2
  simpa using h2.symm)

set_option maxHeartbeats 800000 in
theorem right1_any (s : ByteArray) (i : Int) (hok : StOk ⟨s, i⟩) (w : World) :
    Calls Try.prog 39 #[.agg #[.string s, .int .u64 i]] w fun e w' => e = .returned (.bool (stB ⟨s, i⟩)) ∧ Below w.heap.size w w' := by
  have hsz : s.size ≤ maxLen := hok.sz
  by_cases h0 : s.size = 0
  · obtain rfl := empty_of h0
    have HB := Lib.hid (show stB ⟨ByteArray.empty, i⟩ = (i != 0) from by unfold stB; rw [show nameB ByteArray.empty = false from rfl]; rfl)
    clear hok hsz h0
    go_enter Try.func39, Try.ntmps39
    go_wp2_with fail
    go_ret
    exact ⟨by rw [HB.out]; rfl, (Below.refl _ _).alloc (Nat.le_refl _) _⟩
  · have hne := toList_ne h0
    have hne2 := isEmpty_ne h0
    have hne3 : (s.toList == []) = false := beq_eq_false_iff_ne.2 hne
    have HN := Lib.hid (vname_any s hsz)
    by_cases hi : i = 0
    · subst hi
      have HB := Lib.hid (show stB ⟨s, 0⟩ = nameB s from by unfold stB; simp [h0])
      clear hok hsz
      go_enter Try.func39, Try.ntmps39
      go_wp2_with fail
      refine (HN.out _).mono ?_
      rintro e W1 ⟨rfl, rfl⟩
      go_wp2_with fail
      go_ret
      exact ⟨by rw [HB.out]; rfl, (Below.refl _ _).alloc (Nat.le_refl _) _⟩
    · have hi2 : (i == 0) = false := beq_eq_false_iff_ne.2 hi
      have HB := Lib.hid (show stB ⟨s, i⟩ = false from by unfold stB; simp [h0, hi])
      clear hok hsz
      go_enter Try.func39, Try.ntmps39
      go_wp2_with fail
      go_ret
      exact ⟨by rw [HB.out]; first | rfl | (simp [hi2]), (Below.refl _ _).alloc (Nat.le_refl _) _⟩

theorem s_rightc_any (x : Stp) (hok : StOk x) (w : World) :
    Calls Try.prog 38 #[.agg #[.string x.s, .int .u64 x.id]] w fun e w' => e = .returned (.bool (!stB x)) ∧ Below w.heap.size w w' := by
  obtain ⟨s, i⟩ := x
  have HR := Lib.hid (right1_any s i hok)
  clear hok
  go_enter Try.func38, Try.ntmps38
  go_wp2_with fail
  refine (HR.out _).mono ?_
  rintro e W1 ⟨rfl, hb⟩
  have HB := Lib.hid hb
  clear hb
  go_wp2_with fail
  go_ret
  exact ⟨rfl, below_then HB.out⟩

/-- What IndexFunc finds: the first one, or none. -/
def IsFst (p : Nat → Bool) (n : Nat) (r : Int) : Prop := (r = -1 ∧ ∀ i, i < n → p i = false) ∨ ∃ j : Nat, j < n ∧ r = j ∧ p j = true
theorem IsFst.any {p : Nat → Bool} {n : Nat} {r : Int} (h : IsFst p n r) : (decide (0 ≤ r)) = (List.range n).any p := by
  rcases h with ⟨rfl, h⟩ | ⟨j, hj, rfl, hp⟩
  · rw [show decide ((0 : Int) ≤ -1) = false from rfl]
    symm
    rw [← Bool.not_eq_true, List.any_eq_true]
    rintro ⟨i, hi, hp⟩
    rw [h i (List.mem_range.1 hi)] at hp
    cases hp
  · rw [decide_eq_true (by omega)]
    symm
    rw [List.any_eq_true]
    exact ⟨j, List.mem_range.2 hj, hp⟩

set_option maxHeartbeats 800000 in
theorem s_if_right (a : Option Addr) (n c : Nat) (l : List Stp) (hn : n ≤ 9223372036854775807) (w : World) (h : Sts w a n l) (hok : ∀ x ∈ l, StOk x) :
    Calls Try.prog 60 #[.slice a n c, .func (.func 38) #[] #[]] w fun e w' => (∃ r, e = .returned (.int .i64 r) ∧ IsFst (fun i => !stB (stp l i)) n r) ∧ Below w.heap.size w w' := by
  have HL := Lib.hid h.1
  have H := Lib.hid h
  have HOK := Lib.hid hok
  clear h hok
  go_enter Try.func60, Try.ntmps60
  go_wp2_with fail
  go_loopw [8] (fun i wr => ∃ j : Nat, j ≤ n ∧ i = .int .i64 (j : Int) ∧ (∀ i, i < j → (!stB (stp l i)) = false) ∧ Below w.heap.size w wr) (fun i _ => n - (intOf i).toNat)
  case atStart => exact ⟨0, Nat.zero_le _, rfl, fun _ h => absurd h (Nat.not_lt_zero _), Below.refl _ _⟩
  case round =>
    obtain ⟨j, hjn, rfl, hall, hw⟩ := hrel
    have bj0 : (0 : Int) ≤ (j : Int) := by omega
    by_cases hj : j < n
    · have hji : (j : Int) < (n : Int) := by omega
      obtain ⟨ad, rfl, hc0, hc1⟩ := (H.out.below hw).at_ hj
      have HA := Lib.hid hall
      have HW := Lib.hid hw
      have hfj := s_rightc_any (stp l j) (ok_get HOK.out (by rw [HL.out]; exact hj)) wr
      have HLD := Lib.hid (ld_st hc0 hc1)
      obtain ⟨b, hb⟩ : ∃ b, (!stB (stp l j)) = b := ⟨_, rfl⟩
      rw [hb] at hfj
      have HFJ := Lib.hid hfj
      have HB := Lib.hid hb
      clear hall hw hfj hb hc0 hc1
      cases b
      · skip
        go_wp2_with (refine wpList_loadr rfl 42 (.tmp 14) rfl _ _ rfl HLD.out ?_)
        refine HFJ.out.mono ?_
        rintro e W1 ⟨rfl, hbl⟩
        have HBL := Lib.hid hbl
        clear hbl
        go_wp2_with fail
        go_roundw
        case rel =>
          refine ⟨j + 1, by omega, by go_num, fun i hi => ?_, HW.out.trans (HBL.out.mono HW.out.size)⟩
          by_cases hij : i = j
          · subst hij; exact HB.out
          · exact HA.out i (by omega)
        case measure => simp [intOf] <;> omega
      · skip
        go_wp2_with (refine wpList_loadr rfl 42 (.tmp 14) rfl _ _ rfl HLD.out ?_)
        refine HFJ.out.mono ?_
        rintro e W1 ⟨rfl, hbl⟩
        have HBL := Lib.hid hbl
        clear hbl
        go_wp2_with fail
        go_ret
        exact ⟨⟨_, rfl, .inr ⟨j, hj, rfl, HB.out⟩⟩, HW.out.trans (HBL.out.mono HW.out.size)⟩
    · obtain rfl : j = n := by omega
      have HA := Lib.hid hall
      have HW := Lib.hid hw
      clear hall hw
      go_wp2_with fail
      go_ret
      exact ⟨⟨_, rfl, .inl ⟨rfl, HA.out⟩⟩, HW.out⟩

theorem s_cf_right (a : Option Addr) (n c : Nat) (l : List Stp) (hn : n ≤ 9223372036854775807) (w : World) (h : Sts w a n l) (hok : ∀ x ∈ l, StOk x) :
    Calls Try.prog 37 #[.slice a n c, .func (.func 38) #[] #[]] w fun e w' => e = .returned (.bool ((List.range n).any fun i => !stB (stp l i))) ∧ Below w.heap.size w w' := by
  have HI := Lib.hid (s_if_right a n c l hn w h hok)
  clear h hok
  go_enter Try.func37, Try.ntmps37
  go_wp2_with fail
  refine HI.out.mono ?_
  rintro e W1 ⟨⟨r, rfl, hr⟩, hb⟩
  have HR := Lib.hid hr.any
  have HB := Lib.hid hb
  clear hr hb
  go_wp2_with fail
  go_ret
  exact ⟨by rw [← HR.out]; rfl, HB.out⟩
theorem s_not_any (p : Nat → Bool) (n : Nat) : (!(List.range n).any fun i => !p i) = (List.range n).all p := by
  rw [Bool.eq_iff_iff]
  simp
theorem pright_any (a : Option Addr) (n c : Nat) (l : List Stp) (hn : n ≤ 9223372036854775807) (w : World) (h : Sts w a n l) (hok : ∀ x ∈ l, StOk x) :
    Calls Try.prog 19 #[.slice a n c] w fun e w' => e = .returned (.bool (rightP l)) ∧ Below w.heap.size w w' := by
  have hl := h.1
  by_cases h8 : n ≤ 8
  · have g8 : (n : Int) ≤ 8 := by omega
    have HC := Lib.hid (s_cf_right a n c l hn w h hok)
    have HR := Lib.hid (show rightP l = !((List.range n).any fun i => !stB (stp l i)) from by unfold rightP; rw [s_not_any, hl, decide_eq_true h8, Bool.true_and])
    clear h hok hl
    go_enter Try.func19, Try.ntmps19
    go_wp2_with fail
    refine HC.out.mono ?_
    rintro e W1 ⟨rfl, hb⟩
    have HB := Lib.hid hb
    clear hb
    go_wp2_with fail
    go_ret
    exact ⟨by rw [HR.out]; rfl, HB.out⟩
  · have g8 : ¬ (n : Int) ≤ 8 := by omega
    have HR := Lib.hid (show rightP l = false from by unfold rightP; rw [hl, decide_eq_false h8]; rfl)
    clear h hok hl
    go_enter Try.func19, Try.ntmps19
    go_wp2_with fail
    go_ret
    exact ⟨by rw [HR.out]; rfl, Below.refl _ _⟩


theorem rightP_no {l : List Stp} {j : Nat} (hj : j < l.length) (h : stB (stp l j) = false) : rightP l = false := by
  unfold rightP
  rw [← Bool.not_eq_true, Bool.and_eq_true, List.all_eq_true]
  rintro ⟨_, h2⟩
  rw [h2 j (List.mem_range.2 hj)] at h
  cases h
theorem rightP_yes {l : List Stp} (h : ∀ j, j < l.length → stB (stp l j) = true) : rightP l = decide (l.length ≤ 8) := by
  unfold rightP
  rw [show ((List.range l.length).all fun i => stB (stp l i)) = true from List.all_eq_true.2 fun i hi => h i (List.mem_range.1 hi), Bool.and_true]

set_option maxHeartbeats 1600000 in
theorem pright_ref (a : Option Addr) (n c : Nat) (l : List Stp) (hn : n ≤ 9223372036854775807) (w : World) (h : Sts w a n l) (hok : ∀ x ∈ l, StOk x) :
    Calls Try.prog 9 #[.slice a n c] w fun e w' => e = .returned (.bool (rightP l)) ∧ Below w.heap.size w w' := by
  have HL := Lib.hid h.1
  have H := Lib.hid h
  have HOK := Lib.hid hok
  clear h hok
  go_enter Try.func9, Try.ntmps9
  go_wp2_with fail
  go_loopw [3, 4, 5] (fun i _ _ wr => ∃ j : Nat, j ≤ n ∧ i = .int .i64 (j : Int) ∧ (∀ i, i < j → stB (stp l i) = true) ∧ Below w.heap.size w wr) (fun i _ _ _ => n - (intOf i).toNat)
  case atStart => exact ⟨0, Nat.zero_le _, rfl, fun _ h => absurd h (Nat.not_lt_zero _), Below.refl _ _⟩
  case round =>
    obtain ⟨j, hjn, rfl, hall, hw⟩ := hrel
    have bj0 : (0 : Int) ≤ (j : Int) := by omega
    have HBW := Lib.hid hw
    by_cases hj : j < n
    · have hji : (j : Int) < (n : Int) := by omega
      obtain ⟨ad, rfl, hc0, hc1⟩ := (H.out.below hw).at_ hj
      have hsz : (stp l j).s.size ≤ maxLen := (ok_get HOK.out (by rw [HL.out]; exact hj)).sz
      have HNO := Lib.hid (fun h => rightP_no (l := l) (j := j) (by rw [HL.out]; exact hj) h)
      have HMO := Lib.hid (fun (h : stB (stp l j) = true) i (hi : i < j + 1) => if hij : i = j then hij ▸ h else hall i (by omega))
      clear hall hw
      generalize stp l j = x at *
      obtain ⟨s, i⟩ := x
      have hsz : s.size ≤ maxLen := hsz
      obtain ⟨b, hna⟩ : ∃ b, nameB s = b := ⟨_, rfl⟩
      have hnm := rname_ref s hsz wr
      rw [hna] at hnm
      have HNA := Lib.hid hnm
      have HN1 := Lib.hid hna
      clear hnm
      by_cases h0 : s.size = 0
      · obtain rfl := empty_of h0
        obtain rfl : b = false := by rw [← hna]; rfl
        clear hna
        by_cases hi : i = 0
        · subst hi
          go_wp2_with fail
          refine HNA.out.mono ?_
          rintro e W1 ⟨rfl, rfl⟩
          go_wp2_with fail
          go_ret
          exact ⟨by rw [HNO.out (by unfold stB; simp [HN1.out])]; rfl, HBW.out⟩
        · have hi2 : (i == 0) = false := beq_eq_false_iff_ne.2 hi
          have hi3 : (i != 0) = true := bne_iff_ne.2 hi
          go_wp2_with fail
          refine HNA.out.mono ?_
          rintro e W1 ⟨rfl, rfl⟩
          go_wp2_with fail
          go_roundw
          case rel => exact ⟨j + 1, by omega, by go_num, HMO.out (by unfold stB; simp [HN1.out, hi]), HBW.out⟩
          case measure => simp [intOf] <;> omega
      · have hne := toList_ne h0
        have hne2 := isEmpty_ne h0
        have hne3 : (s.toList == []) = false := beq_eq_false_iff_ne.2 hne
        clear hna
        cases b
        · skip
          go_wp2_with fail
          refine HNA.out.mono ?_
          rintro e W1 ⟨rfl, rfl⟩
          go_wp2_with fail
          go_ret
          exact ⟨by rw [HNO.out (by unfold stB; simp [HN1.out, h0])]; rfl, HBW.out⟩
        · by_cases hi : i = 0
          · subst hi
            go_wp2_with fail
            refine HNA.out.mono ?_
            rintro e W1 ⟨rfl, rfl⟩
            go_wp2_with fail
            go_roundw
            case rel => exact ⟨j + 1, by omega, by go_num, HMO.out (by unfold stB; simp [HN1.out, h0]), HBW.out⟩
            case measure => simp [intOf] <;> omega
          · have hi2 : (i == 0) = false := beq_eq_false_iff_ne.2 hi
            have hi3 : (i != 0) = true := bne_iff_ne.2 hi
            go_wp2_with fail
            refine HNA.out.mono ?_
            rintro e W1 ⟨rfl, rfl⟩
            go_wp2_with fail
            go_ret
            exact ⟨by rw [HNO.out (by unfold stB; simp [HN1.out, h0, hi])]; rfl, HBW.out⟩
    · obtain rfl : j = n := by omega
      have hry := rightP_yes (l := l) (fun i hi => hall i (by have := HL.out; omega))
      clear hall hw
      rw [HL.out] at hry
      by_cases h8 : j ≤ 8
      · have g8 : (j : Int) ≤ 8 := by omega
        rw [decide_eq_true h8] at hry
        have HRY := Lib.hid hry
        clear hry
        go_wp2_with fail
        go_ret
        exact ⟨by rw [HRY.out]; rfl, HBW.out⟩
      · have g8 : ¬ (j : Int) ≤ 8 := by omega
        rw [decide_eq_false h8] at hry
        have HRY := Lib.hid hry
        clear hry
        go_wp2_with fail
        go_ret
        exact ⟨by rw [HRY.out]; rfl, HBW.out⟩

end Go.Proofs.Ythknfbbnnldnmaa
