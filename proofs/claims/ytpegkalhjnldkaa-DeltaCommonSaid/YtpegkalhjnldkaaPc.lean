/- A schema's words: has, fresh, choice. -/
import Derived.Test.YtpegkalhjnldkaaPl
namespace Go.Proofs.Ytpegkalhjnldkaa
set_option maxRecDepth 100000
set_option linter.unusedSimpArgs false
set_option linter.unusedVariables false
open Go.RowKit

set_option maxHeartbeats 800000 in
theorem if_has (a : Option Addr) (n cap : Nat) (l : List ByteArray) (q : Value) (p : Nat → Bool) (hn : n ≤ 9223372036854775807) (w : World) (h : Strs w a n l)
    (hf : ∀ j, j < n → ∀ w', Below w.heap.size w w' → Calls Try.prog 54 #[.string (nth l j), q] w' fun e w'' => e = .returned (.bool (p j)) ∧ Below w'.heap.size w' w'') :
    Calls Try.prog 69 #[.slice a n cap, .func (.func 54) #[] #[q]] w fun e w' => (∃ r, e = .returned (.int .i64 r) ∧ IsFirst p n r) ∧ Below w.heap.size w w' := by
  have H := Lib.hid h
  have HF := Lib.hid hf
  clear h hf
  go_enter Try.func69, Try.ntmps69
  go_wp2_with fail
  go_loopw [8] (fun i wr => ∃ j : Nat, j ≤ n ∧ i = .int .i64 (j : Int) ∧ (∀ i, i < j → p i = false) ∧ Below w.heap.size w wr) (fun i _ => n - (intOf i).toNat)
  case atStart => exact ⟨0, Nat.zero_le _, rfl, fun _ h => absurd h (Nat.not_lt_zero _), Below.refl _ _⟩
  case round =>
    obtain ⟨j, hjn, rfl, hall, hw⟩ := hrel
    have bj0 : (0 : Int) ≤ (j : Int) := by omega
    by_cases hj : j < n
    · have hji : (j : Int) < (n : Int) := by omega
      obtain ⟨ad, rfl, hc⟩ := Strs.at_ (H.out.belowAll hw) hj
      have HA := Lib.hid hall
      have HW := Lib.hid hw
      have hfj := HF.out j hj wr hw
      obtain ⟨b, hb⟩ : ∃ b, p j = b := ⟨_, rfl⟩
      rw [hb] at hfj
      have HFJ := Lib.hid hfj
      have HB := Lib.hid hb
      clear hall hw hfj hb
      cases b
      · skip
        go_wp2_with fail
        refine HFJ.out.mono ?_
        rintro e W1 ⟨rfl, hbl⟩
        have HBL := Lib.hid hbl
        clear hbl
        go_wp2_with fail
        go_roundw
        case rel =>
          refine ⟨j + 1, by omega, by go_num, fun i hi => ?_, HW.out.trans (HBL.out.mono HW.out.size)⟩
          by_cases hij : i = j
          · subst hij; exact HB.out
          · exact HA.out i (by omega)
        case measure => simp [intOf] <;> omega
      · skip
        go_wp2_with fail
        refine HFJ.out.mono ?_
        rintro e W1 ⟨rfl, hbl⟩
        have HBL := Lib.hid hbl
        clear hbl
        go_wp2_with fail
        go_ret
        exact ⟨⟨_, rfl, .inr ⟨j, hj, rfl, HB.out, HA.out⟩⟩, HW.out.trans (HBL.out.mono HW.out.size)⟩
    · obtain rfl : j = n := by omega
      have HA := Lib.hid hall
      have HW := Lib.hid hw
      clear hall hw
      go_wp2_with fail
      go_ret
      exact ⟨⟨_, rfl, .inl ⟨rfl, HA.out⟩⟩, HW.out⟩
theorem cf_has (a : Option Addr) (n cap : Nat) (l : List ByteArray) (q : Value) (p : Nat → Bool) (hn : n ≤ 9223372036854775807) (w : World) (h : Strs w a n l)
    (hf : ∀ j, j < n → ∀ w', Below w.heap.size w w' → Calls Try.prog 54 #[.string (nth l j), q] w' fun e w'' => e = .returned (.bool (p j)) ∧ Below w'.heap.size w' w'') :
    Calls Try.prog 53 #[.slice a n cap, .func (.func 54) #[] #[q]] w fun e w' => e = .returned (.bool ((List.range n).any p)) ∧ Below w.heap.size w w' := by
  have HI := Lib.hid (if_has a n cap l q p hn w h hf)
  clear h hf
  go_enter Try.func53, Try.ntmps53
  go_wp2_with fail
  refine HI.out.mono ?_
  rintro e W1 ⟨⟨r, rfl, hr⟩, hb⟩
  have HR := Lib.hid hr.any
  have HB := Lib.hid hb
  clear hr hb
  go_wp2_with fail
  go_ret
  exact ⟨by rw [← HR.out]; rfl, HB.out⟩

theorem hasc_any (s x : ByteArray) (g : Nat) (w : World) (hg : w.cell? ⟨g, 0, none⟩ = some (.string s)) :
    Calls Try.prog 54 #[.string x, .pointer (some ⟨g, 0, none⟩)] w fun e w' => e = .returned (.bool (eqS x s)) ∧ w' = w := by
  go_enter Try.func54, Try.ntmps54
  go_wp2_with fail
  go_ret
  exact ⟨rfl, rfl⟩
def hasB (l : List ByteArray) (n : Nat) (s : ByteArray) : Bool := (List.range n).any fun j => eqS (nth l j) s
theorem has_any (a : Option Addr) (n cap : Nat) (l : List ByteArray) (s : ByteArray) (hn : n ≤ 9223372036854775807) (w : World) (h : Strs w a n l) :
    Calls Try.prog 33 #[.slice a n cap, .string s] w fun e w' => e = .returned (.bool (hasB l n s)) ∧ Below w.heap.size w w' := by
  have hw := Below.alloc1 w (.cells #[.string s] 9)
  have hcell : (w.alloc (.cells #[.string s] 9)).cell? ⟨w.heap.size, 0, none⟩ = some (.string s) := (Row.new w [.string s] 9).cell (k := 0) rfl
  have hlt : w.heap.size < (w.alloc (.cells #[.string s] 9)).heap.size := by simp
  have hcf := cf_has a n cap l (.pointer (some ⟨w.heap.size, 0, none⟩)) (fun j => eqS (nth l j) s) hn _ (h.belowAll hw) (fun j hj w' hb => calls_same (hasc_any s (nth l j) w.heap.size w' ((hb.cell hlt).trans hcell)))
  have HCF := Lib.hid hcf
  have HW := Lib.hid hw
  clear hcf hw hcell hlt h
  go_enter Try.func33, Try.ntmps33
  go_wp2_with fail
  refine HCF.out.mono ?_
  rintro e W1 ⟨rfl, hb⟩
  have HB := Lib.hid hb
  clear hb
  go_wp2_with fail
  go_ret
  exact ⟨rfl, HW.out.trans (HB.out.mono HW.out.size)⟩
/-- Whether a word may stand behind these. -/
def newB (l : List ByteArray) (n : Nat) (s : ByteArray) : Bool := nameB s && (List.range n).all fun j => !eqS s (nth l j)
theorem eqS_comm (a b : ByteArray) : eqS a b = eqS b a := by unfold eqS; rw [Bool.eq_iff_iff, beq_iff_eq, beq_iff_eq]; exact eq_comm
theorem newB_eq (l : List ByteArray) (n : Nat) (s : ByteArray) : newB l n s = (nameB s && !hasB l n s) := by
  unfold newB hasB
  congr 1
  rw [Bool.eq_iff_iff, Bool.not_eq_true', ← Bool.not_eq_true, List.any_eq_true, List.all_eq_true]
  constructor
  · rintro h ⟨j, hj, he⟩
    have h1 := h j hj
    rw [eqS_comm, he] at h1
    cases h1
  · intro h j hj
    rw [Bool.not_eq_true', ← Bool.not_eq_true, eqS_comm]
    exact fun e => h ⟨j, hj, e⟩
theorem sfresh_any (a : Option Addr) (n cap : Nat) (l : List ByteArray) (s : ByteArray) (hs : s.size ≤ maxLen) (hn : n ≤ 9223372036854775807) (w : World) (h : Strs w a n l) :
    Calls Try.prog 65 #[.slice a n cap, .string s] w fun e w' => e = .returned (.bool (newB l n s)) ∧ Below w.heap.size w w' := by
  have hna := vname_any s hs w
  have hnb := newB_eq l n s
  obtain ⟨b, hb⟩ : ∃ b, nameB s = b := ⟨_, rfl⟩
  rw [hb] at hna hnb
  have HNA := Lib.hid hna
  have HH := Lib.hid (has_any a n cap l s hn w h)
  have HNB := Lib.hid hnb
  clear hna hb h hnb
  cases b
  · go_enter Try.func65, Try.ntmps65
    go_wp2_with fail
    refine HNA.out.mono ?_
    rintro e w' ⟨rfl, rfl⟩
    go_wp2_with fail
    go_ret
    exact ⟨by rw [HNB.out]; rfl, Below.refl _ _⟩
  · generalize hasB l n s = c at *
    cases c
    · go_enter Try.func65, Try.ntmps65
      go_wp2_with fail
      refine HNA.out.mono ?_
      rintro e w' ⟨rfl, rfl⟩
      go_wp2_with fail
      refine HH.out.mono ?_
      rintro e w' ⟨rfl, hb⟩
      have HB := Lib.hid hb
      clear hb
      go_wp2_with fail
      go_ret
      exact ⟨by rw [HNB.out]; rfl, HB.out⟩
    · go_enter Try.func65, Try.ntmps65
      go_wp2_with fail
      refine HNA.out.mono ?_
      rintro e w' ⟨rfl, rfl⟩
      go_wp2_with fail
      refine HH.out.mono ?_
      rintro e w' ⟨rfl, hb⟩
      have HB := Lib.hid hb
      clear hb
      go_wp2_with fail
      go_ret
      exact ⟨by rw [HNB.out]; rfl, HB.out⟩
theorem newB_take (l : List ByteArray) (i : Nat) (v : ByteArray) : newB (l.take i) i v = newB l i v := by
  unfold newB
  rw [Bool.eq_iff_iff]
  simp only [Bool.and_eq_true, List.all_eq_true, List.mem_range]
  exact ⟨fun h => ⟨h.1, fun j hj => by have := h.2 j hj; rwa [nth_take hj] at this⟩, fun h => ⟨h.1, fun j hj => by rw [nth_take hj]; exact h.2 j hj⟩⟩
def wordsN (l : List ByteArray) (n : Nat) : Bool := (List.range n).all fun i => newB l i (nth l i)
theorem wordsN_more (l : List ByteArray) {n : Nat} : wordsN l (n + 1) = (wordsN l n && newB l n (nth l n)) := by
  unfold wordsN
  rw [List.range_succ, List.all_append]
  simp only [List.all_cons, List.all_nil, Bool.and_true]
theorem wordsN_no {l : List ByteArray} {n m : Nat} (h : wordsN l n = false) (hm : n ≤ m) : wordsN l m = false := by
  unfold wordsN at *
  rw [← Bool.not_eq_true, List.all_eq_true] at *
  exact fun h' => h fun i hi => h' i (List.mem_range.2 (by have := List.mem_range.1 hi; omega))
theorem words_n (l : List ByteArray) : wordsB l = wordsN l l.length := rfl
def choiceB (l : List ByteArray) : Bool := decide (1 ≤ l.length) && decide (l.length ≤ 8) && wordsB l

set_option maxHeartbeats 800000 in
theorem choice_any (a : Option Addr) (n cap : Nat) (l : List ByteArray) (hss : ∀ x ∈ l, x.size ≤ maxLen) (hn : n ≤ cap ∧ cap ≤ maxLen) (w : World) (h : Strs w a n l) :
    Calls Try.prog 47 #[.slice a n cap] w fun e w' => e = .returned (.bool (choiceB l)) ∧ Below w.heap.size w w' := by
  have hl := h.len
  by_cases h1 : 1 ≤ n
  · have g1 : ((n : Int) == 0) = false := beq_eq_false_iff_ne.2 (by omega)
    have g1b : ¬ (n : Int) = 0 := by omega
    by_cases h8 : n ≤ 8
    · have g8 : ¬ (n : Int) > 8 := by omega
      have g8b : (n : Int) ≤ 8 := by omega
      have hf : choiceB l = wordsN l n := by unfold choiceB; rw [hl, decide_eq_true h8, decide_eq_true h1, words_n, hl]; rfl
      have HF := Lib.hid hf
      have H := Lib.hid h
      have HSS := Lib.hid hss
      have hn1 : n ≤ cap := hn.1
      have hn2 : (cap : Int) ≤ 9223372036854775807 := by have := hn.2; unfold maxLen at this; omega
      clear hf h hl hss hn
      go_enter Try.func47, Try.ntmps47
      go_wp2_with fail
      go_loopw [15] (fun i wr => ∃ j : Nat, j ≤ n ∧ i = .int .i64 (j : Int) ∧ wordsN l j = true ∧ Below w.heap.size w wr) (fun i _ => n - (intOf i).toNat)
      case atStart => exact ⟨0, Nat.zero_le _, rfl, rfl, Below.refl _ _⟩
      case round =>
        obtain ⟨j, hjn, rfl, hall, hw⟩ := hrel
        have bj0 : (0 : Int) ≤ (j : Int) := by omega
        by_cases hj : j < n
        · have hji : (j : Int) < (n : Int) := by omega
          have hjc : (j : Int) ≤ (cap : Int) := by omega
          have hm := wordsN_more l (n := j)
          rw [hall, Bool.true_and] at hm
          have hno := fun h => wordsN_no (l := l) (n := j + 1) (m := n) h (by omega)
          have hr := H.out.belowAll hw
          have hfo := sfresh_any a j cap (l.take j) (nth l j) (nth_sz HSS.out j) (by omega) wr (Strs.take hr (by omega))
          obtain ⟨ad, rfl, hc⟩ := Strs.at_ hr hj
          rw [newB_take, ← hm] at hfo
          have HNO := Lib.hid hno
          have HFO := Lib.hid hfo
          have HW := Lib.hid hw
          clear hall hno hfo hm hr hw
          generalize nth l j = x at *
          generalize hb : wordsN l (j + 1) = b at *
          have HB := Lib.hid hb
          clear hb
          cases b
          · skip
            go_wp2_with fail
            refine HFO.out.mono ?_
            rintro e w' ⟨rfl, hbl⟩
            have HBL := Lib.hid hbl
            clear hbl
            go_wp2_with fail
            go_ret
            exact ⟨by rw [HF.out, HNO.out trivial]; rfl, HW.out.trans (HBL.out.mono HW.out.size)⟩
          · skip
            go_wp2_with fail
            refine HFO.out.mono ?_
            rintro e w' ⟨rfl, hbl⟩
            have HBL := Lib.hid hbl
            clear hbl
            go_wp2_with fail
            go_roundw
            case rel => exact ⟨j + 1, by omega, by go_num, HB.out, HW.out.trans (HBL.out.mono HW.out.size)⟩
            case measure => simp [intOf] <;> omega
        · obtain rfl : j = n := by omega
          have HA := Lib.hid hall
          have HW := Lib.hid hw
          clear hall hw
          go_wp2_with fail
          go_ret
          exact ⟨by rw [HF.out, HA.out]; rfl, HW.out⟩
    · have HF := Lib.hid (show choiceB l = false by unfold choiceB; rw [hl, decide_eq_false h8, Bool.and_false]; rfl)
      have g8 : (n : Int) > 8 := by omega
      have g8b : ¬ (n : Int) ≤ 8 := by omega
      have g8c : (8 : Int) < (n : Int) := by omega
      clear h hl hss
      go_enter Try.func47, Try.ntmps47
      go_wp2_with fail
      go_ret
      exact ⟨by rw [HF.out]; rfl, Below.refl _ _⟩
  · have HF := Lib.hid (show choiceB l = false by unfold choiceB; rw [hl, decide_eq_false h1]; rfl)
    obtain rfl : n = 0 := by omega
    clear h hl hss
    go_enter Try.func47, Try.ntmps47
    go_wp2_with fail
    go_ret
    exact ⟨by rw [HF.out]; rfl, Below.refl _ _⟩

end Go.Proofs.Ytpegkalhjnldkaa
