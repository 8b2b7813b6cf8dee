/- Whether a value is right: the program. -/
import Derived.Test.YtpegkalhjnldkaaPc
import Derived.Laws.Strings
namespace Go.Proofs.Ytpegkalhjnldkaa
set_option maxRecDepth 100000
set_option linter.unusedSimpArgs false
set_option linter.unusedVariables false
open Go.RowKit

theorem toL_nil (s : ByteArray) : s.toList = [] ↔ s = ByteArray.empty := by
  rw [ByteArray.toList_eq]
  constructor
  · intro h
    have h1 : s.data = #[] := by simpa using h
    cases s
    simp only at h1
    subst h1
    rfl
  · rintro rfl; rfl
theorem beqz (n : Nat) : ((n : Int) == 0) = decide (n = 0) := by rw [Bool.eq_iff_iff, beq_iff_eq, decide_eq_true_eq]; omega
theorem ieqz (n : Int) : (n == 0) = decide (n = 0) := by rw [Bool.eq_iff_iff, beq_iff_eq, decide_eq_true_eq]
theorem ieq1 (n : Int) : (n == 1) = decide (n = 1) := by rw [Bool.eq_iff_iff, beq_iff_eq, decide_eq_true_eq]
def bareB (k n : Int) (s : ByteArray) (nl il len : Nat) : Bool :=
  if k = 1 ∨ k = 2 then decide (s.size = 0) && decide (nl = 0) && decide (il = 0) && decide (len = 0)
  else if k = 3 ∨ k = 4 then decide (n = 0) && decide (nl = 0) && decide (il = 0) && decide (len = 0)
  else if k = 5 then decide (n = 0) && decide (s.size = 0) && decide (il = 0)
  else if k = 6 then decide (n = 0) && decide (s.size = 0) && decide (nl = 0)
  else decide (n = 0) && decide (s.size = 0) && decide (nl = 0) && decide (il = 0) && decide (len = 0)
def fitB (k n : Int) (s : ByteArray) (names : List ByteArray) (ids : List Int) (len : Nat) : Bool :=
  if k = 1 then decide (n = 0 ∨ n = 1) else if k = 2 then true else if k = 3 then decide (s.size ≤ 64) else if k = 4 then nameB s
  else if k = 5 then fieldsB names len else if k = 6 then elemsB ids len else false
theorem head_eq (k n : Int) (s : ByteArray) (names : List ByteArray) (ids : List Int) (len : Nat) : headV k n s names ids len = (bareB k n s names.length ids.length len && fitB k n s names ids len) := by
  unfold headV bareB fitB fieldsB elemsB
  by_cases h1 : k = 1
  · subst h1; simp; rw [Bool.eq_iff_iff]; simp [and_assoc, and_comm, and_left_comm]
  by_cases h2 : k = 2
  · subst h2; simp
  by_cases h3 : k = 3
  · subst h3; simp; rw [Bool.eq_iff_iff]; simp [and_assoc, and_comm, and_left_comm]
  by_cases h4 : k = 4
  · subst h4; simp; rw [Bool.eq_iff_iff]; simp [and_assoc, and_comm, and_left_comm]
  by_cases h5 : k = 5
  · subst h5; simp; rw [Bool.eq_iff_iff]; simp [and_assoc]
  by_cases h6 : k = 6
  · subst h6; simp; rw [Bool.eq_iff_iff]; simp [and_assoc]
  simp [h1, h2, h3, h4, h5, h6]
theorem bare_1 (n : Int) (s : ByteArray) (a b c : Option Addr) (la ca lb cb lc cc : Nat) (w : World) :
    Calls Try.prog 50 #[.agg #[.int .i64 1, .int .i64 n, .string s, .slice a la ca, .slice b lb cb, .slice c lc cc]] w fun e w' => e = .returned (.bool (bareB 1 n s la lb lc)) ∧ Below w.heap.size w w' := by
  have hb : bareB 1 n s la lb lc = (decide (s.size = 0) && decide (la = 0) && decide (lb = 0) && decide (lc = 0)) := by rfl
  have HB := Lib.hid hb
  clear hb
  go_enter Try.func50, Try.ntmps50
  go_wp2_with fail
  all_goals go_ret
  all_goals refine ⟨?_, Below.alloc1 w _⟩
  all_goals rw [HB.out]
  all_goals clear HB
  all_goals simp_all [beqz, ieqz, toL_nil]
theorem bare_2 (n : Int) (s : ByteArray) (a b c : Option Addr) (la ca lb cb lc cc : Nat) (w : World) :
    Calls Try.prog 50 #[.agg #[.int .i64 2, .int .i64 n, .string s, .slice a la ca, .slice b lb cb, .slice c lc cc]] w fun e w' => e = .returned (.bool (bareB 2 n s la lb lc)) ∧ Below w.heap.size w w' := by
  have hb : bareB 2 n s la lb lc = (decide (s.size = 0) && decide (la = 0) && decide (lb = 0) && decide (lc = 0)) := by rfl
  have HB := Lib.hid hb
  clear hb
  go_enter Try.func50, Try.ntmps50
  go_wp2_with fail
  all_goals go_ret
  all_goals refine ⟨?_, Below.alloc1 w _⟩
  all_goals rw [HB.out]
  all_goals clear HB
  all_goals simp_all [beqz, ieqz, toL_nil]
theorem bare_3 (n : Int) (s : ByteArray) (a b c : Option Addr) (la ca lb cb lc cc : Nat) (w : World) :
    Calls Try.prog 50 #[.agg #[.int .i64 3, .int .i64 n, .string s, .slice a la ca, .slice b lb cb, .slice c lc cc]] w fun e w' => e = .returned (.bool (bareB 3 n s la lb lc)) ∧ Below w.heap.size w w' := by
  have hb : bareB 3 n s la lb lc = (decide (n = 0) && decide (la = 0) && decide (lb = 0) && decide (lc = 0)) := by rfl
  have HB := Lib.hid hb
  clear hb
  go_enter Try.func50, Try.ntmps50
  go_wp2_with fail
  all_goals go_ret
  all_goals refine ⟨?_, Below.alloc1 w _⟩
  all_goals rw [HB.out]
  all_goals clear HB
  all_goals simp_all [beqz, ieqz, toL_nil]
theorem bare_4 (n : Int) (s : ByteArray) (a b c : Option Addr) (la ca lb cb lc cc : Nat) (w : World) :
    Calls Try.prog 50 #[.agg #[.int .i64 4, .int .i64 n, .string s, .slice a la ca, .slice b lb cb, .slice c lc cc]] w fun e w' => e = .returned (.bool (bareB 4 n s la lb lc)) ∧ Below w.heap.size w w' := by
  have hb : bareB 4 n s la lb lc = (decide (n = 0) && decide (la = 0) && decide (lb = 0) && decide (lc = 0)) := by rfl
  have HB := Lib.hid hb
  clear hb
  go_enter Try.func50, Try.ntmps50
  go_wp2_with fail
  all_goals go_ret
  all_goals refine ⟨?_, Below.alloc1 w _⟩
  all_goals rw [HB.out]
  all_goals clear HB
  all_goals simp_all [beqz, ieqz, toL_nil]
theorem bare_5 (n : Int) (s : ByteArray) (a b c : Option Addr) (la ca lb cb lc cc : Nat) (w : World) :
    Calls Try.prog 50 #[.agg #[.int .i64 5, .int .i64 n, .string s, .slice a la ca, .slice b lb cb, .slice c lc cc]] w fun e w' => e = .returned (.bool (bareB 5 n s la lb lc)) ∧ Below w.heap.size w w' := by
  have hb : bareB 5 n s la lb lc = (decide (n = 0) && decide (s.size = 0) && decide (lb = 0)) := by rfl
  have HB := Lib.hid hb
  clear hb
  go_enter Try.func50, Try.ntmps50
  go_wp2_with fail
  all_goals go_ret
  all_goals refine ⟨?_, Below.alloc1 w _⟩
  all_goals rw [HB.out]
  all_goals clear HB
  all_goals simp_all [beqz, ieqz, toL_nil]
theorem bare_6 (n : Int) (s : ByteArray) (a b c : Option Addr) (la ca lb cb lc cc : Nat) (w : World) :
    Calls Try.prog 50 #[.agg #[.int .i64 6, .int .i64 n, .string s, .slice a la ca, .slice b lb cb, .slice c lc cc]] w fun e w' => e = .returned (.bool (bareB 6 n s la lb lc)) ∧ Below w.heap.size w w' := by
  have hb : bareB 6 n s la lb lc = (decide (n = 0) && decide (s.size = 0) && decide (la = 0)) := by rfl
  have HB := Lib.hid hb
  clear hb
  go_enter Try.func50, Try.ntmps50
  go_wp2_with fail
  all_goals go_ret
  all_goals refine ⟨?_, Below.alloc1 w _⟩
  all_goals rw [HB.out]
  all_goals clear HB
  all_goals simp_all [beqz, ieqz, toL_nil]
theorem bare_0 (k : Int) (n : Int) (s : ByteArray) (a b c : Option Addr) (la ca lb cb lc cc : Nat) (h1 : ¬ k = 1) (h2 : ¬ k = 2) (h3 : ¬ k = 3) (h4 : ¬ k = 4) (h5 : ¬ k = 5) (h6 : ¬ k = 6) (w : World) :
    Calls Try.prog 50 #[.agg #[.int .i64 k, .int .i64 n, .string s, .slice a la ca, .slice b lb cb, .slice c lc cc]] w fun e w' => e = .returned (.bool (bareB k n s la lb lc)) ∧ Below w.heap.size w w' := by
  have hb : bareB k n s la lb lc = (decide (n = 0) && decide (s.size = 0) && decide (la = 0) && decide (lb = 0) && decide (lc = 0)) := by unfold bareB; rw [if_neg (by omega), if_neg (by omega), if_neg h5, if_neg h6]
  have HB := Lib.hid hb
  clear hb
  have g1 : (k == 1) = false := beq_eq_false_iff_ne.2 h1
  have g2 : (k == 2) = false := beq_eq_false_iff_ne.2 h2
  have g3 : (k == 3) = false := beq_eq_false_iff_ne.2 h3
  have g4 : (k == 4) = false := beq_eq_false_iff_ne.2 h4
  have g5 : (k == 5) = false := beq_eq_false_iff_ne.2 h5
  have g6 : (k == 6) = false := beq_eq_false_iff_ne.2 h6
  go_enter Try.func50, Try.ntmps50
  go_wp2_with fail
  all_goals go_ret
  all_goals refine ⟨?_, Below.alloc1 w _⟩
  all_goals rw [HB.out]
  all_goals clear HB
  all_goals simp_all [beqz, ieqz, toL_nil]
theorem bare_any (k n : Int) (s : ByteArray) (a b c : Option Addr) (la ca lb cb lc cc : Nat) (w : World) :
    Calls Try.prog 50 #[.agg #[.int .i64 k, .int .i64 n, .string s, .slice a la ca, .slice b lb cb, .slice c lc cc]] w fun e w' => e = .returned (.bool (bareB k n s la lb lc)) ∧ Below w.heap.size w w' := by
  by_cases h1 : k = 1
  · subst h1; exact bare_1 n s a b c la ca lb cb lc cc w
  by_cases h2 : k = 2
  · subst h2; exact bare_2 n s a b c la ca lb cb lc cc w
  by_cases h3 : k = 3
  · subst h3; exact bare_3 n s a b c la ca lb cb lc cc w
  by_cases h4 : k = 4
  · subst h4; exact bare_4 n s a b c la ca lb cb lc cc w
  by_cases h5 : k = 5
  · subst h5; exact bare_5 n s a b c la ca lb cb lc cc w
  by_cases h6 : k = 6
  · subst h6; exact bare_6 n s a b c la ca lb cb lc cc w
  exact bare_0 k n s a b c la ca lb cb lc cc h1 h2 h3 h4 h5 h6 w
theorem fit_1 (n : Int) (s : ByteArray) (names : List ByteArray) (ids : List Int) (a b c : Option Addr) (la ca lb cb lc cc : Nat) (hs : s.size ≤ maxLen) (hss : ∀ x ∈ names, x.size ≤ maxLen) (hac : la ≤ ca ∧ ca ≤ maxLen) (hbc : lb ≤ cb ∧ cb ≤ maxLen) (w : World) (ha : Strs w a la names) (hb : Nums w b lb ids) :
    Calls Try.prog 51 #[.agg #[.int .i64 1, .int .i64 n, .string s, .slice a la ca, .slice b lb cb, .slice c lc cc]] w fun e w' => e = .returned (.bool (fitB 1 n s names ids lc)) ∧ Below w.heap.size w w' := by
  have hf : fitB 1 n s names ids lc = (decide (n = 0 ∨ n = 1)) := by rfl
  have HF := Lib.hid hf
  have HW := Lib.hid (Below.alloc1 w (.cells #[.int .i64 1, .int .i64 n, .string s, .slice a la ca, .slice b lb cb, .slice c lc cc] 37))
  clear hf hs hss hac hbc ha hb
  go_enter Try.func51, Try.ntmps51
  go_wp2_with fail
  all_goals go_ret
  all_goals refine ⟨?_, Below.alloc1 w _⟩
  all_goals rw [HF.out]
  all_goals clear HF HW
  all_goals simp_all [ieqz, ieq1]
theorem fit_2 (n : Int) (s : ByteArray) (names : List ByteArray) (ids : List Int) (a b c : Option Addr) (la ca lb cb lc cc : Nat) (hs : s.size ≤ maxLen) (hss : ∀ x ∈ names, x.size ≤ maxLen) (hac : la ≤ ca ∧ ca ≤ maxLen) (hbc : lb ≤ cb ∧ cb ≤ maxLen) (w : World) (ha : Strs w a la names) (hb : Nums w b lb ids) :
    Calls Try.prog 51 #[.agg #[.int .i64 2, .int .i64 n, .string s, .slice a la ca, .slice b lb cb, .slice c lc cc]] w fun e w' => e = .returned (.bool (fitB 2 n s names ids lc)) ∧ Below w.heap.size w w' := by
  have hf : fitB 2 n s names ids lc = (true) := by rfl
  have HF := Lib.hid hf
  have HW := Lib.hid (Below.alloc1 w (.cells #[.int .i64 2, .int .i64 n, .string s, .slice a la ca, .slice b lb cb, .slice c lc cc] 37))
  clear hf hs hss hac hbc ha hb
  go_enter Try.func51, Try.ntmps51
  go_wp2_with fail
  all_goals go_ret
  all_goals exact ⟨by rw [HF.out]; rfl, Below.alloc1 w _⟩
theorem fit_3 (n : Int) (s : ByteArray) (names : List ByteArray) (ids : List Int) (a b c : Option Addr) (la ca lb cb lc cc : Nat) (hs : s.size ≤ maxLen) (hss : ∀ x ∈ names, x.size ≤ maxLen) (hac : la ≤ ca ∧ ca ≤ maxLen) (hbc : lb ≤ cb ∧ cb ≤ maxLen) (w : World) (ha : Strs w a la names) (hb : Nums w b lb ids) :
    Calls Try.prog 51 #[.agg #[.int .i64 3, .int .i64 n, .string s, .slice a la ca, .slice b lb cb, .slice c lc cc]] w fun e w' => e = .returned (.bool (fitB 3 n s names ids lc)) ∧ Below w.heap.size w w' := by
  have hf : fitB 3 n s names ids lc = (decide (s.size ≤ 64)) := by rfl
  have HF := Lib.hid hf
  have HW := Lib.hid (Below.alloc1 w (.cells #[.int .i64 3, .int .i64 n, .string s, .slice a la ca, .slice b lb cb, .slice c lc cc] 37))
  clear hf hs hss hac hbc ha hb
  go_enter Try.func51, Try.ntmps51
  go_wp2_with fail
  all_goals go_ret
  all_goals refine ⟨?_, Below.alloc1 w _⟩
  all_goals rw [HF.out]
  all_goals clear HF HW
  all_goals simp
  all_goals try (first | rfl | omega | (rw [Bool.eq_iff_iff]; simp <;> omega))
theorem fit_4 (n : Int) (s : ByteArray) (names : List ByteArray) (ids : List Int) (a b c : Option Addr) (la ca lb cb lc cc : Nat) (hs : s.size ≤ maxLen) (hss : ∀ x ∈ names, x.size ≤ maxLen) (hac : la ≤ ca ∧ ca ≤ maxLen) (hbc : lb ≤ cb ∧ cb ≤ maxLen) (w : World) (ha : Strs w a la names) (hb : Nums w b lb ids) :
    Calls Try.prog 51 #[.agg #[.int .i64 4, .int .i64 n, .string s, .slice a la ca, .slice b lb cb, .slice c lc cc]] w fun e w' => e = .returned (.bool (fitB 4 n s names ids lc)) ∧ Below w.heap.size w w' := by
  have hf : fitB 4 n s names ids lc = (nameB s) := by rfl
  have HF := Lib.hid hf
  have HW := Lib.hid (Below.alloc1 w (.cells #[.int .i64 4, .int .i64 n, .string s, .slice a la ca, .slice b lb cb, .slice c lc cc] 37))
  have HC := Lib.hid (vname_any s hs (w.alloc (.cells #[.int .i64 4, .int .i64 n, .string s, .slice a la ca, .slice b lb cb, .slice c lc cc] 37)))
  clear hf hs hss hac hbc ha hb
  go_enter Try.func51, Try.ntmps51
  go_wp2_with fail
  refine HC.out.mono ?_
  rintro e w' ⟨rfl, rfl⟩
  go_wp2_with fail
  go_ret
  exact ⟨by rw [HF.out]; rfl, HW.out⟩
theorem fit_5 (n : Int) (s : ByteArray) (names : List ByteArray) (ids : List Int) (a b c : Option Addr) (la ca lb cb lc cc : Nat) (hs : s.size ≤ maxLen) (hss : ∀ x ∈ names, x.size ≤ maxLen) (hac : la ≤ ca ∧ ca ≤ maxLen) (hbc : lb ≤ cb ∧ cb ≤ maxLen) (w : World) (ha : Strs w a la names) (hb : Nums w b lb ids) :
    Calls Try.prog 51 #[.agg #[.int .i64 5, .int .i64 n, .string s, .slice a la ca, .slice b lb cb, .slice c lc cc]] w fun e w' => e = .returned (.bool (fitB 5 n s names ids lc)) ∧ Below w.heap.size w w' := by
  have hf : fitB 5 n s names ids lc = (fieldsB names lc) := by rfl
  have HF := Lib.hid hf
  have HW := Lib.hid (Below.alloc1 w (.cells #[.int .i64 5, .int .i64 n, .string s, .slice a la ca, .slice b lb cb, .slice c lc cc] 37))
  have HC := Lib.hid (fright_any a la ca names hss hac lc (w.alloc (.cells #[.int .i64 5, .int .i64 n, .string s, .slice a la ca, .slice b lb cb, .slice c lc cc] 37)) (ha.belowAll HW.out))
  clear hf hs hss hac hbc ha hb
  go_enter Try.func51, Try.ntmps51
  go_wp2_with fail
  refine HC.out.mono ?_
  rintro e w' ⟨rfl, rfl⟩
  go_wp2_with fail
  go_ret
  exact ⟨by rw [HF.out]; rfl, HW.out⟩
theorem fit_6 (n : Int) (s : ByteArray) (names : List ByteArray) (ids : List Int) (a b c : Option Addr) (la ca lb cb lc cc : Nat) (hs : s.size ≤ maxLen) (hss : ∀ x ∈ names, x.size ≤ maxLen) (hac : la ≤ ca ∧ ca ≤ maxLen) (hbc : lb ≤ cb ∧ cb ≤ maxLen) (w : World) (ha : Strs w a la names) (hb : Nums w b lb ids) :
    Calls Try.prog 51 #[.agg #[.int .i64 6, .int .i64 n, .string s, .slice a la ca, .slice b lb cb, .slice c lc cc]] w fun e w' => e = .returned (.bool (fitB 6 n s names ids lc)) ∧ Below w.heap.size w w' := by
  have hf : fitB 6 n s names ids lc = (elemsB ids lc) := by rfl
  have HF := Lib.hid hf
  have HW := Lib.hid (Below.alloc1 w (.cells #[.int .i64 6, .int .i64 n, .string s, .slice a la ca, .slice b lb cb, .slice c lc cc] 37))
  have HC := Lib.hid (elements_any b lb cb ids hbc lc (w.alloc (.cells #[.int .i64 6, .int .i64 n, .string s, .slice a la ca, .slice b lb cb, .slice c lc cc] 37)) (hb.belowAll HW.out))
  clear hf hs hss hac hbc ha hb
  go_enter Try.func51, Try.ntmps51
  go_wp2_with fail
  refine HC.out.mono ?_
  rintro e w' ⟨rfl, rfl⟩
  go_wp2_with fail
  go_ret
  exact ⟨by rw [HF.out]; rfl, HW.out⟩
theorem fit_0 (k : Int) (n : Int) (s : ByteArray) (names : List ByteArray) (ids : List Int) (a b c : Option Addr) (la ca lb cb lc cc : Nat) (h1 : ¬ k = 1) (h2 : ¬ k = 2) (h3 : ¬ k = 3) (h4 : ¬ k = 4) (h5 : ¬ k = 5) (h6 : ¬ k = 6) (hs : s.size ≤ maxLen) (hss : ∀ x ∈ names, x.size ≤ maxLen) (hac : la ≤ ca ∧ ca ≤ maxLen) (hbc : lb ≤ cb ∧ cb ≤ maxLen) (w : World) (ha : Strs w a la names) (hb : Nums w b lb ids) :
    Calls Try.prog 51 #[.agg #[.int .i64 k, .int .i64 n, .string s, .slice a la ca, .slice b lb cb, .slice c lc cc]] w fun e w' => e = .returned (.bool (fitB k n s names ids lc)) ∧ Below w.heap.size w w' := by
  have hf : fitB k n s names ids lc = (false) := by unfold fitB; rw [if_neg h1, if_neg h2, if_neg h3, if_neg h4, if_neg h5, if_neg h6]
  have HF := Lib.hid hf
  have HW := Lib.hid (Below.alloc1 w (.cells #[.int .i64 k, .int .i64 n, .string s, .slice a la ca, .slice b lb cb, .slice c lc cc] 37))
  have g1 : (k == 1) = false := beq_eq_false_iff_ne.2 h1
  have g2 : (k == 2) = false := beq_eq_false_iff_ne.2 h2
  have g3 : (k == 3) = false := beq_eq_false_iff_ne.2 h3
  have g4 : (k == 4) = false := beq_eq_false_iff_ne.2 h4
  have g5 : (k == 5) = false := beq_eq_false_iff_ne.2 h5
  have g6 : (k == 6) = false := beq_eq_false_iff_ne.2 h6
  clear hf hs hss hac hbc ha hb
  go_enter Try.func51, Try.ntmps51
  go_wp2_with fail
  all_goals go_ret
  all_goals exact ⟨by rw [HF.out]; rfl, Below.alloc1 w _⟩
theorem fit_any (k n : Int) (s : ByteArray) (names : List ByteArray) (ids : List Int) (a b c : Option Addr) (la ca lb cb lc cc : Nat) (hs : s.size ≤ maxLen) (hss : ∀ x ∈ names, x.size ≤ maxLen) (hac : la ≤ ca ∧ ca ≤ maxLen) (hbc : lb ≤ cb ∧ cb ≤ maxLen) (w : World) (ha : Strs w a la names) (hb : Nums w b lb ids) :
    Calls Try.prog 51 #[.agg #[.int .i64 k, .int .i64 n, .string s, .slice a la ca, .slice b lb cb, .slice c lc cc]] w fun e w' => e = .returned (.bool (fitB k n s names ids lc)) ∧ Below w.heap.size w w' := by
  by_cases h1 : k = 1
  · subst h1; exact fit_1 n s names ids a b c la ca lb cb lc cc hs hss hac hbc w ha hb
  by_cases h2 : k = 2
  · subst h2; exact fit_2 n s names ids a b c la ca lb cb lc cc hs hss hac hbc w ha hb
  by_cases h3 : k = 3
  · subst h3; exact fit_3 n s names ids a b c la ca lb cb lc cc hs hss hac hbc w ha hb
  by_cases h4 : k = 4
  · subst h4; exact fit_4 n s names ids a b c la ca lb cb lc cc hs hss hac hbc w ha hb
  by_cases h5 : k = 5
  · subst h5; exact fit_5 n s names ids a b c la ca lb cb lc cc hs hss hac hbc w ha hb
  by_cases h6 : k = 6
  · subst h6; exact fit_6 n s names ids a b c la ca lb cb lc cc hs hss hac hbc w ha hb
  exact fit_0 k n s names ids a b c la ca lb cb lc cc h1 h2 h3 h4 h5 h6 hs hss hac hbc w ha hb

set_option maxHeartbeats 800000 in
theorem if_right (a : Option Addr) (n cap : Nat) (css : Nat → List Value) (q : Value) (p : Nat → Bool) (hn : n ≤ 9223372036854775807) (w : World) (h : Parts w 6 a n css)
    (hf : ∀ j, j < n → ∀ w', Below w.heap.size w w' → Calls Try.prog 52 #[.agg (css j).toArray, q] w' fun e w'' => e = .returned (.bool (p j)) ∧ Below w'.heap.size w' w'') :
    Calls Try.prog 55 #[.slice a n cap, .func (.func 52) #[] #[q]] w fun e w' => (∃ r, e = .returned (.int .i64 r) ∧ IsFirst p n r) ∧ Below w.heap.size w w' := by
  have H := Lib.hid h
  have HF := Lib.hid hf
  clear h hf
  go_enter Try.func55, Try.ntmps55
  go_wp2_with fail
  go_loopw [8] (fun i wr => ∃ j : Nat, j ≤ n ∧ i = .int .i64 (j : Int) ∧ (∀ i, i < j → p i = false) ∧ Below w.heap.size w wr) (fun i _ => n - (intOf i).toNat)
  case atStart => exact ⟨0, Nat.zero_le _, rfl, fun _ h => absurd h (Nat.not_lt_zero _), Below.refl _ _⟩
  case round =>
    obtain ⟨j, hjn, rfl, hall, hw⟩ := hrel
    have bj0 : (0 : Int) ≤ (j : Int) := by omega
    by_cases hj : j < n
    · have hji : (j : Int) < (n : Int) := by omega
      obtain ⟨ad, rfl, hlen, hcell⟩ := (H.out.below hw).at_ hj
      have HIX := Lib.hid (ix_v ad n cap j hj wr)
      have HC := Lib.hid hcell
      have HL := Lib.hid (v_len hlen)
      clear hlen hcell
      have HA := Lib.hid hall
      have HW := Lib.hid hw
      have hfj := HF.out j hj wr hw
      obtain ⟨b, hb⟩ : ∃ b, p j = b := ⟨_, rfl⟩
      rw [hb] at hfj
      have HFJ := Lib.hid hfj
      have HB := Lib.hid hb
      clear hall hw hfj hb
      cases b
      · skip
        go_wp2_with (first
        | (refine wpList_indexAt rfl 35 (.tmp 12) (.tmp 13) rfl _ _ _ rfl rfl HIX.out ?_)
        | (refine wpList_load_at rfl 37 (.tmp 14) rfl (ad.add (j * 6)) rfl (css j) _ HC.out Try.underlying37 rfl HL.out ?_))
        refine HFJ.out.mono ?_
        rintro e W1 ⟨rfl, hbl⟩
        have HBL := Lib.hid hbl
        clear hbl
        go_wp2_with fail
        go_roundw
        case rel =>
          refine ⟨j + 1, by omega, by go_num, fun i hi => ?_, HW.out.trans (HBL.out.mono HW.out.size)⟩
          by_cases hij : i = j
          · subst hij; exact HB.out
          · exact HA.out i (by omega)
        case measure => simp [intOf] <;> omega
      · skip
        go_wp2_with (first
        | (refine wpList_indexAt rfl 35 (.tmp 12) (.tmp 13) rfl _ _ _ rfl rfl HIX.out ?_)
        | (refine wpList_load_at rfl 37 (.tmp 14) rfl (ad.add (j * 6)) rfl (css j) _ HC.out Try.underlying37 rfl HL.out ?_))
        refine HFJ.out.mono ?_
        rintro e W1 ⟨rfl, hbl⟩
        have HBL := Lib.hid hbl
        clear hbl
        go_wp2_with fail
        go_ret
        exact ⟨⟨_, rfl, .inr ⟨j, hj, rfl, HB.out, HA.out⟩⟩, HW.out.trans (HBL.out.mono HW.out.size)⟩
    · obtain rfl : j = n := by omega
      have HA := Lib.hid hall
      have HW := Lib.hid hw
      clear hall hw
      go_wp2_with fail
      go_ret
      exact ⟨⟨_, rfl, .inl ⟨rfl, HA.out⟩⟩, HW.out⟩
theorem cf_right (a : Option Addr) (n cap : Nat) (css : Nat → List Value) (q : Value) (p : Nat → Bool) (hn : n ≤ 9223372036854775807) (w : World) (h : Parts w 6 a n css)
    (hf : ∀ j, j < n → ∀ w', Below w.heap.size w w' → Calls Try.prog 52 #[.agg (css j).toArray, q] w' fun e w'' => e = .returned (.bool (p j)) ∧ Below w'.heap.size w' w'') :
    Calls Try.prog 35 #[.slice a n cap, .func (.func 52) #[] #[q]] w fun e w' => e = .returned (.bool ((List.range n).any p)) ∧ Below w.heap.size w w' := by
  have HI := Lib.hid (if_right a n cap css q p hn w h hf)
  clear h hf
  go_enter Try.func35, Try.ntmps35
  go_wp2_with fail
  refine HI.out.mono ?_
  rintro e W1 ⟨⟨r, rfl, hr⟩, hb⟩
  have HR := Lib.hid hr.any
  have HB := Lib.hid hb
  clear hr hb
  go_wp2_with fail
  go_ret
  exact ⟨by rw [← HR.out]; rfl, HB.out⟩

/-- The function that is handed on, where what it calls is known. -/
theorem rightc_any (cs : List Value) (hcs : cs.length = 6) (g : Nat) (d : Nat) (b : Bool) (hd : d ≤ 1000) (w : World) (hg : w.cell? ⟨g, 0, none⟩ = some (.int .i64 (d : Int)))
    (hrec : ∀ w1, Below w.heap.size w w1 → Calls Try.prog 32 #[.agg cs.toArray, .int .i64 ((d : Int) + 1)] w1 fun e w' => e = .returned (.bool b) ∧ Below w1.heap.size w1 w') :
    Calls Try.prog 52 #[.agg cs.toArray, .pointer (some ⟨g, 0, none⟩)] w fun e w' => e = .returned (.bool (!b)) ∧ Below w.heap.size w w' := by
  have hw := Below.alloc1 w (.cells cs.toArray 37)
  have hlt : g < w.heap.size := lt_of_cell hg
  have HG := Lib.hid ((hw.cell (p := ⟨g, 0, none⟩) hlt).trans hg)
  have HREC := Lib.hid (hrec _ hw)
  have HW := Lib.hid hw
  have HB0 := Lib.hid (Row.new w cs 37)
  have HI := Lib.hid (v_info hcs)
  have hg2 := HG.out
  clear hw hrec hg
  go_enter Try.func52, Try.ntmps52
  go_wp2_with (refine wpList_load_row rfl 37 (.tmp 2) rfl w.heap.size rfl 37 _ (0, 0) _ HB0.out Try.underlying37 rfl HI.out ?_)
  refine HREC.out.mono ?_
  rintro e W1 ⟨rfl, hb⟩
  have HB := Lib.hid hb
  clear hb
  go_wp2_with fail
  go_ret
  exact ⟨rfl, HW.out.trans (HB.out.mono HW.out.size)⟩

end Go.Proofs.Ytpegkalhjnldkaa
