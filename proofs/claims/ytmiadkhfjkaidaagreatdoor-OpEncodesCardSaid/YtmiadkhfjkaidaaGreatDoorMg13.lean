/- Whether a value is right: the program. Whether a value is right: the program. -/
import Derived.Test.YtmiadkhfjkaidaaGreatDoorMg12
import Derived.Laws.Strings
namespace Go.Proofs.YtmiadkhfjkaidaaGreatDoor
section
set_option maxRecDepth 100000
set_option linter.unusedSimpArgs false
set_option linter.unusedVariables false
open Go.RowKit

theorem toL_nil (s : ByteArray) : s.toList = [] ↔ s = ByteArray.empty := by
  rw [ByteArray.toList_eq]
  constructor
  · intro h
    have h1 : s.data = #[] := by simpa using h
    cases s
    simp only at h1
    subst h1
    rfl
  · rintro rfl; rfl
theorem beqz (n : Nat) : ((n : Int) == 0) = decide (n = 0) := by rw [Bool.eq_iff_iff, beq_iff_eq, decide_eq_true_eq]; omega
theorem ieqz (n : Int) : (n == 0) = decide (n = 0) := by rw [Bool.eq_iff_iff, beq_iff_eq, decide_eq_true_eq]
theorem ieq1 (n : Int) : (n == 1) = decide (n = 1) := by rw [Bool.eq_iff_iff, beq_iff_eq, decide_eq_true_eq]
def bareB (k n : Int) (s : ByteArray) (nl il len : Nat) : Bool :=
  if k = 1 ∨ k = 2 then decide (s.size = 0) && decide (nl = 0) && decide (il = 0) && decide (len = 0)
  else if k = 3 ∨ k = 4 then decide (n = 0) && decide (nl = 0) && decide (il = 0) && decide (len = 0)
  else if k = 5 then decide (n = 0) && decide (s.size = 0) && decide (il = 0)
  else if k = 6 then decide (n = 0) && decide (s.size = 0) && decide (nl = 0)
  else decide (n = 0) && decide (s.size = 0) && decide (nl = 0) && decide (il = 0) && decide (len = 0)
def fitB (k n : Int) (s : ByteArray) (names : List ByteArray) (ids : List Int) (len : Nat) : Bool :=
  if k = 1 then decide (n = 0 ∨ n = 1) else if k = 2 then true else if k = 3 then decide (s.size ≤ 64) else if k = 4 then nameB s
  else if k = 5 then fieldsB names len else if k = 6 then elemsB ids len else false
theorem head_eq (k n : Int) (s : ByteArray) (names : List ByteArray) (ids : List Int) (len : Nat) : headV k n s names ids len = (bareB k n s names.length ids.length len && fitB k n s names ids len) := by
  unfold headV bareB fitB fieldsB elemsB
  by_cases h1 : k = 1
  · subst h1; simp; rw [Bool.eq_iff_iff]; simp [and_assoc, and_comm, and_left_comm]
  by_cases h2 : k = 2
  · subst h2; simp
  by_cases h3 : k = 3
  · subst h3; simp; rw [Bool.eq_iff_iff]; simp [and_assoc, and_comm, and_left_comm]
  by_cases h4 : k = 4
  · subst h4; simp; rw [Bool.eq_iff_iff]; simp [and_assoc, and_comm, and_left_comm]
  by_cases h5 : k = 5
  · subst h5; simp; rw [Bool.eq_iff_iff]; simp [and_assoc]
  by_cases h6 : k = 6
  · subst h6; simp; rw [Bool.eq_iff_iff]; simp [and_assoc]
  simp [h1, h2, h3, h4, h5, h6]
theorem bare_1 (n : Int) (s : ByteArray) (a b c : Option Addr) (la ca lb cb lc cc : Nat) (w : World) :
    Calls Tryz.prog 120 #[.agg #[.int .i64 1, .int .i64 n, .string s, .slice a la ca, .slice b lb cb, .slice c lc cc]] w fun e w' => e = .returned (.bool (bareB 1 n s la lb lc)) ∧ Below w.heap.size w w' := by
  have hb : bareB 1 n s la lb lc = (decide (s.size = 0) && decide (la = 0) && decide (lb = 0) && decide (lc = 0)) := by rfl
  have HB := Lib.hid hb
  clear hb
  go_enter Tryz.func120, Tryz.ntmps120
  go_wp2_with fail
  all_goals go_ret
  all_goals refine ⟨?_, Below.alloc1 w _⟩
  all_goals rw [HB.out]
  all_goals clear HB
  all_goals simp_all [beqz, ieqz, toL_nil]
theorem bare_2 (n : Int) (s : ByteArray) (a b c : Option Addr) (la ca lb cb lc cc : Nat) (w : World) :
    Calls Tryz.prog 120 #[.agg #[.int .i64 2, .int .i64 n, .string s, .slice a la ca, .slice b lb cb, .slice c lc cc]] w fun e w' => e = .returned (.bool (bareB 2 n s la lb lc)) ∧ Below w.heap.size w w' := by
  have hb : bareB 2 n s la lb lc = (decide (s.size = 0) && decide (la = 0) && decide (lb = 0) && decide (lc = 0)) := by rfl
  have HB := Lib.hid hb
  clear hb
  go_enter Tryz.func120, Tryz.ntmps120
  go_wp2_with fail
  all_goals go_ret
  all_goals refine ⟨?_, Below.alloc1 w _⟩
  all_goals rw [HB.out]
  all_goals clear HB
  all_goals simp_all [beqz, ieqz, toL_nil]
theorem bare_3 (n : Int) (s : ByteArray) (a b c : Option Addr) (la ca lb cb lc cc : Nat) (w : World) :
    Calls Tryz.prog 120 #[.agg #[.int .i64 3, .int .i64 n, .string s, .slice a la ca, .slice b lb cb, .slice c lc cc]] w fun e w' => e = .returned (.bool (bareB 3 n s la lb lc)) ∧ Below w.heap.size w w' := by
  have hb : bareB 3 n s la lb lc = (decide (n = 0) && decide (la = 0) && decide (lb = 0) && decide (lc = 0)) := by rfl
  have HB := Lib.hid hb
  clear hb
  go_enter Tryz.func120, Tryz.ntmps120
  go_wp2_with fail
  all_goals go_ret
  all_goals refine ⟨?_, Below.alloc1 w _⟩
  all_goals rw [HB.out]
  all_goals clear HB
  all_goals simp_all [beqz, ieqz, toL_nil]
theorem bare_4 (n : Int) (s : ByteArray) (a b c : Option Addr) (la ca lb cb lc cc : Nat) (w : World) :
    Calls Tryz.prog 120 #[.agg #[.int .i64 4, .int .i64 n, .string s, .slice a la ca, .slice b lb cb, .slice c lc cc]] w fun e w' => e = .returned (.bool (bareB 4 n s la lb lc)) ∧ Below w.heap.size w w' := by
  have hb : bareB 4 n s la lb lc = (decide (n = 0) && decide (la = 0) && decide (lb = 0) && decide (lc = 0)) := by rfl
  have HB := Lib.hid hb
  clear hb
  go_enter Tryz.func120, Tryz.ntmps120
  go_wp2_with fail
  all_goals go_ret
  all_goals refine ⟨?_, Below.alloc1 w _⟩
  all_goals rw [HB.out]
  all_goals clear HB
  all_goals simp_all [beqz, ieqz, toL_nil]
theorem bare_5 (n : Int) (s : ByteArray) (a b c : Option Addr) (la ca lb cb lc cc : Nat) (w : World) :
    Calls Tryz.prog 120 #[.agg #[.int .i64 5, .int .i64 n, .string s, .slice a la ca, .slice b lb cb, .slice c lc cc]] w fun e w' => e = .returned (.bool (bareB 5 n s la lb lc)) ∧ Below w.heap.size w w' := by
  have hb : bareB 5 n s la lb lc = (decide (n = 0) && decide (s.size = 0) && decide (lb = 0)) := by rfl
  have HB := Lib.hid hb
  clear hb
  go_enter Tryz.func120, Tryz.ntmps120
  go_wp2_with fail
  all_goals go_ret
  all_goals refine ⟨?_, Below.alloc1 w _⟩
  all_goals rw [HB.out]
  all_goals clear HB
  all_goals simp_all [beqz, ieqz, toL_nil]
theorem bare_6 (n : Int) (s : ByteArray) (a b c : Option Addr) (la ca lb cb lc cc : Nat) (w : World) :
    Calls Tryz.prog 120 #[.agg #[.int .i64 6, .int .i64 n, .string s, .slice a la ca, .slice b lb cb, .slice c lc cc]] w fun e w' => e = .returned (.bool (bareB 6 n s la lb lc)) ∧ Below w.heap.size w w' := by
  have hb : bareB 6 n s la lb lc = (decide (n = 0) && decide (s.size = 0) && decide (la = 0)) := by rfl
  have HB := Lib.hid hb
  clear hb
  go_enter Tryz.func120, Tryz.ntmps120
  go_wp2_with fail
  all_goals go_ret
  all_goals refine ⟨?_, Below.alloc1 w _⟩
  all_goals rw [HB.out]
  all_goals clear HB
  all_goals simp_all [beqz, ieqz, toL_nil]
theorem bare_0 (k : Int) (n : Int) (s : ByteArray) (a b c : Option Addr) (la ca lb cb lc cc : Nat) (h1 : ¬ k = 1) (h2 : ¬ k = 2) (h3 : ¬ k = 3) (h4 : ¬ k = 4) (h5 : ¬ k = 5) (h6 : ¬ k = 6) (w : World) :
    Calls Tryz.prog 120 #[.agg #[.int .i64 k, .int .i64 n, .string s, .slice a la ca, .slice b lb cb, .slice c lc cc]] w fun e w' => e = .returned (.bool (bareB k n s la lb lc)) ∧ Below w.heap.size w w' := by
  have hb : bareB k n s la lb lc = (decide (n = 0) && decide (s.size = 0) && decide (la = 0) && decide (lb = 0) && decide (lc = 0)) := by unfold bareB; rw [if_neg (by omega), if_neg (by omega), if_neg h5, if_neg h6]
  have HB := Lib.hid hb
  clear hb
  have g1 : (k == 1) = false := beq_eq_false_iff_ne.2 h1
  have g2 : (k == 2) = false := beq_eq_false_iff_ne.2 h2
  have g3 : (k == 3) = false := beq_eq_false_iff_ne.2 h3
  have g4 : (k == 4) = false := beq_eq_false_iff_ne.2 h4
  have g5 : (k == 5) = false := beq_eq_false_iff_ne.2 h5
  have g6 : (k == 6) = false := beq_eq_false_iff_ne.2 h6
  go_enter Tryz.func120, Tryz.ntmps120
  go_wp2_with fail
  all_goals go_ret
  all_goals refine ⟨?_, Below.alloc1 w _⟩
  all_goals rw [HB.out]
  all_goals clear HB
  all_goals simp_all [beqz, ieqz, toL_nil]
theorem bare_any (k n : Int) (s : ByteArray) (a b c : Option Addr) (la ca lb cb lc cc : Nat) (w : World) :
    Calls Tryz.prog 120 #[.agg #[.int .i64 k, .int .i64 n, .string s, .slice a la ca, .slice b lb cb, .slice c lc cc]] w fun e w' => e = .returned (.bool (bareB k n s la lb lc)) ∧ Below w.heap.size w w' := by
  by_cases h1 : k = 1
  · subst h1; exact bare_1 n s a b c la ca lb cb lc cc w
  by_cases h2 : k = 2
  · subst h2; exact bare_2 n s a b c la ca lb cb lc cc w
  by_cases h3 : k = 3
  · subst h3; exact bare_3 n s a b c la ca lb cb lc cc w
  by_cases h4 : k = 4
  · subst h4; exact bare_4 n s a b c la ca lb cb lc cc w
  by_cases h5 : k = 5
  · subst h5; exact bare_5 n s a b c la ca lb cb lc cc w
  by_cases h6 : k = 6
  · subst h6; exact bare_6 n s a b c la ca lb cb lc cc w
  exact bare_0 k n s a b c la ca lb cb lc cc h1 h2 h3 h4 h5 h6 w
theorem fit_1 (n : Int) (s : ByteArray) (names : List ByteArray) (ids : List Int) (a b c : Option Addr) (la ca lb cb lc cc : Nat) (hs : s.size ≤ maxLen) (hss : ∀ x ∈ names, x.size ≤ maxLen) (hac : la ≤ ca ∧ ca ≤ maxLen) (hbc : lb ≤ cb ∧ cb ≤ maxLen) (w : World) (ha : Strs w a la names) (hb : Nums w b lb ids) :
    Calls Tryz.prog 121 #[.agg #[.int .i64 1, .int .i64 n, .string s, .slice a la ca, .slice b lb cb, .slice c lc cc]] w fun e w' => e = .returned (.bool (fitB 1 n s names ids lc)) ∧ Below w.heap.size w w' := by
  have hf : fitB 1 n s names ids lc = (decide (n = 0 ∨ n = 1)) := by rfl
  have HF := Lib.hid hf
  have HW := Lib.hid (Below.alloc1 w (.cells #[.int .i64 1, .int .i64 n, .string s, .slice a la ca, .slice b lb cb, .slice c lc cc] 28))
  clear hf hs hss hac hbc ha hb
  go_enter Tryz.func121, Tryz.ntmps121
  go_wp2_with fail
  all_goals go_ret
  all_goals refine ⟨?_, Below.alloc1 w _⟩
  all_goals rw [HF.out]
  all_goals clear HF HW
  all_goals simp_all [ieqz, ieq1]
theorem fit_2 (n : Int) (s : ByteArray) (names : List ByteArray) (ids : List Int) (a b c : Option Addr) (la ca lb cb lc cc : Nat) (hs : s.size ≤ maxLen) (hss : ∀ x ∈ names, x.size ≤ maxLen) (hac : la ≤ ca ∧ ca ≤ maxLen) (hbc : lb ≤ cb ∧ cb ≤ maxLen) (w : World) (ha : Strs w a la names) (hb : Nums w b lb ids) :
    Calls Tryz.prog 121 #[.agg #[.int .i64 2, .int .i64 n, .string s, .slice a la ca, .slice b lb cb, .slice c lc cc]] w fun e w' => e = .returned (.bool (fitB 2 n s names ids lc)) ∧ Below w.heap.size w w' := by
  have hf : fitB 2 n s names ids lc = (true) := by rfl
  have HF := Lib.hid hf
  have HW := Lib.hid (Below.alloc1 w (.cells #[.int .i64 2, .int .i64 n, .string s, .slice a la ca, .slice b lb cb, .slice c lc cc] 28))
  clear hf hs hss hac hbc ha hb
  go_enter Tryz.func121, Tryz.ntmps121
  go_wp2_with fail
  all_goals go_ret
  all_goals exact ⟨by rw [HF.out]; rfl, Below.alloc1 w _⟩
theorem fit_3 (n : Int) (s : ByteArray) (names : List ByteArray) (ids : List Int) (a b c : Option Addr) (la ca lb cb lc cc : Nat) (hs : s.size ≤ maxLen) (hss : ∀ x ∈ names, x.size ≤ maxLen) (hac : la ≤ ca ∧ ca ≤ maxLen) (hbc : lb ≤ cb ∧ cb ≤ maxLen) (w : World) (ha : Strs w a la names) (hb : Nums w b lb ids) :
    Calls Tryz.prog 121 #[.agg #[.int .i64 3, .int .i64 n, .string s, .slice a la ca, .slice b lb cb, .slice c lc cc]] w fun e w' => e = .returned (.bool (fitB 3 n s names ids lc)) ∧ Below w.heap.size w w' := by
  have hf : fitB 3 n s names ids lc = (decide (s.size ≤ 64)) := by rfl
  have HF := Lib.hid hf
  have HW := Lib.hid (Below.alloc1 w (.cells #[.int .i64 3, .int .i64 n, .string s, .slice a la ca, .slice b lb cb, .slice c lc cc] 28))
  clear hf hs hss hac hbc ha hb
  go_enter Tryz.func121, Tryz.ntmps121
  go_wp2_with fail
  all_goals go_ret
  all_goals refine ⟨?_, Below.alloc1 w _⟩
  all_goals rw [HF.out]
  all_goals clear HF HW
  all_goals simp
  all_goals try (first | rfl | omega | (rw [Bool.eq_iff_iff]; simp <;> omega))
theorem fit_4 (n : Int) (s : ByteArray) (names : List ByteArray) (ids : List Int) (a b c : Option Addr) (la ca lb cb lc cc : Nat) (hs : s.size ≤ maxLen) (hss : ∀ x ∈ names, x.size ≤ maxLen) (hac : la ≤ ca ∧ ca ≤ maxLen) (hbc : lb ≤ cb ∧ cb ≤ maxLen) (w : World) (ha : Strs w a la names) (hb : Nums w b lb ids) :
    Calls Tryz.prog 121 #[.agg #[.int .i64 4, .int .i64 n, .string s, .slice a la ca, .slice b lb cb, .slice c lc cc]] w fun e w' => e = .returned (.bool (fitB 4 n s names ids lc)) ∧ Below w.heap.size w w' := by
  have hf : fitB 4 n s names ids lc = (nameB s) := by rfl
  have HF := Lib.hid hf
  have HW := Lib.hid (Below.alloc1 w (.cells #[.int .i64 4, .int .i64 n, .string s, .slice a la ca, .slice b lb cb, .slice c lc cc] 28))
  have HC := Lib.hid (vname_any s hs (w.alloc (.cells #[.int .i64 4, .int .i64 n, .string s, .slice a la ca, .slice b lb cb, .slice c lc cc] 28)))
  clear hf hs hss hac hbc ha hb
  go_enter Tryz.func121, Tryz.ntmps121
  go_wp2_with fail
  refine HC.out.mono ?_
  rintro e w' ⟨rfl, rfl⟩
  go_wp2_with fail
  go_ret
  exact ⟨by rw [HF.out]; rfl, HW.out⟩
theorem fit_5 (n : Int) (s : ByteArray) (names : List ByteArray) (ids : List Int) (a b c : Option Addr) (la ca lb cb lc cc : Nat) (hs : s.size ≤ maxLen) (hss : ∀ x ∈ names, x.size ≤ maxLen) (hac : la ≤ ca ∧ ca ≤ maxLen) (hbc : lb ≤ cb ∧ cb ≤ maxLen) (w : World) (ha : Strs w a la names) (hb : Nums w b lb ids) :
    Calls Tryz.prog 121 #[.agg #[.int .i64 5, .int .i64 n, .string s, .slice a la ca, .slice b lb cb, .slice c lc cc]] w fun e w' => e = .returned (.bool (fitB 5 n s names ids lc)) ∧ Below w.heap.size w w' := by
  have hf : fitB 5 n s names ids lc = (fieldsB names lc) := by rfl
  have HF := Lib.hid hf
  have HW := Lib.hid (Below.alloc1 w (.cells #[.int .i64 5, .int .i64 n, .string s, .slice a la ca, .slice b lb cb, .slice c lc cc] 28))
  have HC := Lib.hid (fright_any a la ca names hss hac lc (w.alloc (.cells #[.int .i64 5, .int .i64 n, .string s, .slice a la ca, .slice b lb cb, .slice c lc cc] 28)) (ha.belowAll HW.out))
  clear hf hs hss hac hbc ha hb
  go_enter Tryz.func121, Tryz.ntmps121
  go_wp2_with fail
  refine HC.out.mono ?_
  rintro e w' ⟨rfl, rfl⟩
  go_wp2_with fail
  go_ret
  exact ⟨by rw [HF.out]; rfl, HW.out⟩
theorem fit_6 (n : Int) (s : ByteArray) (names : List ByteArray) (ids : List Int) (a b c : Option Addr) (la ca lb cb lc cc : Nat) (hs : s.size ≤ maxLen) (hss : ∀ x ∈ names, x.size ≤ maxLen) (hac : la ≤ ca ∧ ca ≤ maxLen) (hbc : lb ≤ cb ∧ cb ≤ maxLen) (w : World) (ha : Strs w a la names) (hb : Nums w b lb ids) :
    Calls Tryz.prog 121 #[.agg #[.int .i64 6, .int .i64 n, .string s, .slice a la ca, .slice b lb cb, .slice c lc cc]] w fun e w' => e = .returned (.bool (fitB 6 n s names ids lc)) ∧ Below w.heap.size w w' := by
  have hf : fitB 6 n s names ids lc = (elemsB ids lc) := by rfl
  have HF := Lib.hid hf
  have HW := Lib.hid (Below.alloc1 w (.cells #[.int .i64 6, .int .i64 n, .string s, .slice a la ca, .slice b lb cb, .slice c lc cc] 28))
  have HC := Lib.hid (elements_any b lb cb ids hbc lc (w.alloc (.cells #[.int .i64 6, .int .i64 n, .string s, .slice a la ca, .slice b lb cb, .slice c lc cc] 28)) (hb.belowAll HW.out))
  clear hf hs hss hac hbc ha hb
  go_enter Tryz.func121, Tryz.ntmps121
  go_wp2_with fail
  refine HC.out.mono ?_
  rintro e w' ⟨rfl, rfl⟩
  go_wp2_with fail
  go_ret
  exact ⟨by rw [HF.out]; rfl, HW.out⟩
theorem fit_0 (k : Int) (n : Int) (s : ByteArray) (names : List ByteArray) (ids : List Int) (a b c : Option Addr) (la ca lb cb lc cc : Nat) (h1 : ¬ k = 1) (h2 : ¬ k = 2) (h3 : ¬ k = 3) (h4 : ¬ k = 4) (h5 : ¬ k = 5) (h6 : ¬ k = 6) (hs : s.size ≤ maxLen) (hss : ∀ x ∈ names, x.size ≤ maxLen) (hac : la ≤ ca ∧ ca ≤ maxLen) (hbc : lb ≤ cb ∧ cb ≤ maxLen) (w : World) (ha : Strs w a la names) (hb : Nums w b lb ids) :
    Calls Tryz.prog 121 #[.agg #[.int .i64 k, .int .i64 n, .string s, .slice a la ca, .slice b lb cb, .slice c lc cc]] w fun e w' => e = .returned (.bool (fitB k n s names ids lc)) ∧ Below w.heap.size w w' := by
  have hf : fitB k n s names ids lc = (false) := by unfold fitB; rw [if_neg h1, if_neg h2, if_neg h3, if_neg h4, if_neg h5, if_neg h6]
  have HF := Lib.hid hf
  have HW := Lib.hid (Below.alloc1 w (.cells #[.int .i64 k, .int .i64 n, .string s, .slice a la ca, .slice b lb cb, .slice c lc cc] 28))
  have g1 : (k == 1) = false := beq_eq_false_iff_ne.2 h1
  have g2 : (k == 2) = false := beq_eq_false_iff_ne.2 h2
  have g3 : (k == 3) = false := beq_eq_false_iff_ne.2 h3
  have g4 : (k == 4) = false := beq_eq_false_iff_ne.2 h4
  have g5 : (k == 5) = false := beq_eq_false_iff_ne.2 h5
  have g6 : (k == 6) = false := beq_eq_false_iff_ne.2 h6
  clear hf hs hss hac hbc ha hb
  go_enter Tryz.func121, Tryz.ntmps121
  go_wp2_with fail
  all_goals go_ret
  all_goals exact ⟨by rw [HF.out]; rfl, Below.alloc1 w _⟩
theorem fit_any (k n : Int) (s : ByteArray) (names : List ByteArray) (ids : List Int) (a b c : Option Addr) (la ca lb cb lc cc : Nat) (hs : s.size ≤ maxLen) (hss : ∀ x ∈ names, x.size ≤ maxLen) (hac : la ≤ ca ∧ ca ≤ maxLen) (hbc : lb ≤ cb ∧ cb ≤ maxLen) (w : World) (ha : Strs w a la names) (hb : Nums w b lb ids) :
    Calls Tryz.prog 121 #[.agg #[.int .i64 k, .int .i64 n, .string s, .slice a la ca, .slice b lb cb, .slice c lc cc]] w fun e w' => e = .returned (.bool (fitB k n s names ids lc)) ∧ Below w.heap.size w w' := by
  by_cases h1 : k = 1
  · subst h1; exact fit_1 n s names ids a b c la ca lb cb lc cc hs hss hac hbc w ha hb
  by_cases h2 : k = 2
  · subst h2; exact fit_2 n s names ids a b c la ca lb cb lc cc hs hss hac hbc w ha hb
  by_cases h3 : k = 3
  · subst h3; exact fit_3 n s names ids a b c la ca lb cb lc cc hs hss hac hbc w ha hb
  by_cases h4 : k = 4
  · subst h4; exact fit_4 n s names ids a b c la ca lb cb lc cc hs hss hac hbc w ha hb
  by_cases h5 : k = 5
  · subst h5; exact fit_5 n s names ids a b c la ca lb cb lc cc hs hss hac hbc w ha hb
  by_cases h6 : k = 6
  · subst h6; exact fit_6 n s names ids a b c la ca lb cb lc cc hs hss hac hbc w ha hb
  exact fit_0 k n s names ids a b c la ca lb cb lc cc h1 h2 h3 h4 h5 h6 hs hss hac hbc w ha hb

set_option maxHeartbeats 800000 in
theorem if_right (a : Option Addr) (n cap : Nat) (css : Nat → List Value) (q : Value) (p : Nat → Bool) (hn : n ≤ 9223372036854775807) (w : World) (h : Parts w 6 a n css)
    (hf : ∀ j, j < n → ∀ w', Below w.heap.size w w' → Calls Tryz.prog 122 #[.agg (css j).toArray, q] w' fun e w'' => e = .returned (.bool (p j)) ∧ Below w'.heap.size w' w'') :
    Calls Tryz.prog 148 #[.slice a n cap, .func (.func 122) #[] #[q]] w fun e w' => (∃ r, e = .returned (.int .i64 r) ∧ IsFirst p n r) ∧ Below w.heap.size w w' := by
  have H := Lib.hid h
  have HF := Lib.hid hf
  clear h hf
  go_enter Tryz.func148, Tryz.ntmps148
  go_wp2_with fail
  go_loopw [8] (fun i wr => ∃ j : Nat, j ≤ n ∧ i = .int .i64 (j : Int) ∧ (∀ i, i < j → p i = false) ∧ Below w.heap.size w wr) (fun i _ => n - (intOf i).toNat)
  case atStart => exact ⟨0, Nat.zero_le _, rfl, fun _ h => absurd h (Nat.not_lt_zero _), Below.refl _ _⟩
  case round =>
    obtain ⟨j, hjn, rfl, hall, hw⟩ := hrel
    have bj0 : (0 : Int) ≤ (j : Int) := by omega
    by_cases hj : j < n
    · have hji : (j : Int) < (n : Int) := by omega
      obtain ⟨ad, rfl, hlen, hcell⟩ := (H.out.below hw).at_ hj
      have HIX := Lib.hid (ix_v ad n cap j hj wr)
      have HC := Lib.hid hcell
      have HL := Lib.hid (v_len hlen)
      clear hlen hcell
      have HA := Lib.hid hall
      have HW := Lib.hid hw
      have hfj := HF.out j hj wr hw
      obtain ⟨b, hb⟩ : ∃ b, p j = b := ⟨_, rfl⟩
      rw [hb] at hfj
      have HFJ := Lib.hid hfj
      have HB := Lib.hid hb
      clear hall hw hfj hb
      cases b
      · skip
        go_wp2_with (first
        | (refine wpList_indexAt rfl 26 (.tmp 12) (.tmp 13) rfl _ _ _ rfl rfl HIX.out ?_)
        | (refine wpList_load_at rfl 28 (.tmp 14) rfl (ad.add (j * 6)) rfl (css j) _ HC.out Tryz.underlying28 rfl HL.out ?_))
        refine HFJ.out.mono ?_
        rintro e W1 ⟨rfl, hbl⟩
        have HBL := Lib.hid hbl
        clear hbl
        go_wp2_with fail
        go_roundw
        case rel =>
          refine ⟨j + 1, by omega, by go_num, fun i hi => ?_, HW.out.trans (HBL.out.mono HW.out.size)⟩
          by_cases hij : i = j
          · subst hij; exact HB.out
          · exact HA.out i (by omega)
        case measure => simp [intOf] <;> omega
      · skip
        go_wp2_with (first
        | (refine wpList_indexAt rfl 26 (.tmp 12) (.tmp 13) rfl _ _ _ rfl rfl HIX.out ?_)
        | (refine wpList_load_at rfl 28 (.tmp 14) rfl (ad.add (j * 6)) rfl (css j) _ HC.out Tryz.underlying28 rfl HL.out ?_))
        refine HFJ.out.mono ?_
        rintro e W1 ⟨rfl, hbl⟩
        have HBL := Lib.hid hbl
        clear hbl
        go_wp2_with fail
        go_ret
        exact ⟨⟨_, rfl, .inr ⟨j, hj, rfl, HB.out, HA.out⟩⟩, HW.out.trans (HBL.out.mono HW.out.size)⟩
    · obtain rfl : j = n := by omega
      have HA := Lib.hid hall
      have HW := Lib.hid hw
      clear hall hw
      go_wp2_with fail
      go_ret
      exact ⟨⟨_, rfl, .inl ⟨rfl, HA.out⟩⟩, HW.out⟩
theorem cf_right (a : Option Addr) (n cap : Nat) (css : Nat → List Value) (q : Value) (p : Nat → Bool) (hn : n ≤ 9223372036854775807) (w : World) (h : Parts w 6 a n css)
    (hf : ∀ j, j < n → ∀ w', Below w.heap.size w w' → Calls Tryz.prog 122 #[.agg (css j).toArray, q] w' fun e w'' => e = .returned (.bool (p j)) ∧ Below w'.heap.size w' w'') :
    Calls Tryz.prog 105 #[.slice a n cap, .func (.func 122) #[] #[q]] w fun e w' => e = .returned (.bool ((List.range n).any p)) ∧ Below w.heap.size w w' := by
  have HI := Lib.hid (if_right a n cap css q p hn w h hf)
  clear h hf
  go_enter Tryz.func105, Tryz.ntmps105
  go_wp2_with fail
  refine HI.out.mono ?_
  rintro e W1 ⟨⟨r, rfl, hr⟩, hb⟩
  have HR := Lib.hid hr.any
  have HB := Lib.hid hb
  clear hr hb
  go_wp2_with fail
  go_ret
  exact ⟨by rw [← HR.out]; rfl, HB.out⟩

/-- The function that is handed on, where what it calls is known. -/
theorem rightc_any (cs : List Value) (hcs : cs.length = 6) (g : Nat) (d : Nat) (b : Bool) (hd : d ≤ 1000) (w : World) (hg : w.cell? ⟨g, 0, none⟩ = some (.int .i64 (d : Int)))
    (hrec : ∀ w1, Below w.heap.size w w1 → Calls Tryz.prog 81 #[.agg cs.toArray, .int .i64 ((d : Int) + 1)] w1 fun e w' => e = .returned (.bool b) ∧ Below w1.heap.size w1 w') :
    Calls Tryz.prog 122 #[.agg cs.toArray, .pointer (some ⟨g, 0, none⟩)] w fun e w' => e = .returned (.bool (!b)) ∧ Below w.heap.size w w' := by
  have hw := Below.alloc1 w (.cells cs.toArray 28)
  have hlt : g < w.heap.size := lt_of_cell hg
  have HG := Lib.hid ((hw.cell (p := ⟨g, 0, none⟩) hlt).trans hg)
  have HREC := Lib.hid (hrec _ hw)
  have HW := Lib.hid hw
  have HB0 := Lib.hid (Row.new w cs 28)
  have HI := Lib.hid (v_info hcs)
  have hg2 := HG.out
  clear hw hrec hg
  go_enter Tryz.func122, Tryz.ntmps122
  go_wp2_with (refine wpList_load_row rfl 28 (.tmp 2) rfl w.heap.size rfl 28 _ (0, 0) _ HB0.out Tryz.underlying28 rfl HI.out ?_)
  refine HREC.out.mono ?_
  rintro e W1 ⟨rfl, hb⟩
  have HB := Lib.hid hb
  clear hb
  go_wp2_with fail
  go_ret
  exact ⟨rfl, HW.out.trans (HB.out.mono HW.out.size)⟩
end

section
set_option maxRecDepth 100000
set_option linter.unusedSimpArgs false
set_option linter.unusedVariables false
open Go.RowKit

theorem wpList_load_guarded {P : Program} {ops : Array Oper} {rest : List Oper} {o : Oper} {a : Act} {w : World} {Q : Exit → Act → World → Prop} (hw : Region.wanted o (yielded ops a.tmps) = true) (ty : TypeId) (x : Operand) (ho : o.op = .load ty x)
    (g : Nat) (hx : a.eval x = .pointer (some ⟨g, 0, none⟩)) (T : TypeId) (l : List Value) (hr : Row w g T l) {d : TypeDesc}
    (hu : P.underlying ty = some d) (hd : (match d with | .struct _ | .array _ _ => true | _ => false) = true) (hi : (P.info? ty).map (·.size) = some l.toArray.size)
    (h : wpList P ops Q rest (a.put o.dst (.agg l.toArray)) w) : wpList P ops Q (o :: rest) a w :=
  BigFrame.wpList_want hw fun _ hK => wp_load_row ty x ho g hx T _ (0, 0) _ hr hu hd hi (hK _ _ h)
theorem not_any (f : Nat → Bool) (n : Nat) : (!(List.range n).any fun j => !f j) = (List.range n).all f := by
  rw [Bool.eq_iff_iff, Bool.not_eq_true', ← Bool.not_eq_true, List.any_eq_true, List.all_eq_true]
  constructor
  · intro h j hj
    cases hf : f j with
    | true => rfl
    | false => exact absurd ⟨j, hj, by simp [hf]⟩ h
  · rintro h ⟨j, hj, hf⟩
    rw [h j hj] at hf
    cases hf

set_option maxHeartbeats 1600000 in
theorem right_any : ∀ (v : Vt) (cs : List Value) (d : Nat) (w : World), VAt w v cs → d ≤ 900 →
    Calls Tryz.prog 81 #[.agg cs.toArray, .int .i64 (d : Int)] w fun e w' => e = .returned (.bool (v.rightAt d)) ∧ Below w.heap.size w w' := by
  intro v
  induction v with
  | nul => intro cs d w h; cases h
  | mk k n s names ids len parts ih =>
    intro cs d w h hd
    cases h with
    | mk css hk hn hs h1 h1c hss h2 h2c hi h3 h3c hp =>
    rename_i a b c la ca lb cb cc
    have hmk : (Vt.mk k n s names ids len parts).rightAt d = (decide (d ≤ 5) && (bareB k n s la lb len && fitB k n s names ids len) && (List.range len).all fun i => (parts i).rightAt (d + 1)) := by
      rw [Vt.rightAt_mk, head_eq, Strs.len h1, Nums.len h2]
    generalize (Vt.mk k n s names ids len parts).rightAt d = res at *
    have hlc : len ≤ 9223372036854775807 := by have := h3c.1; have := h3c.2; unfold maxLen at this; omega
    have hw := Below.alloc2 w (.cells [.int .i64 k, .int .i64 n, .string s, .slice a la ca, .slice b lb cb, .slice c len cc].toArray 28) (.cells #[.int .i64 (d : Int)] 3)
    have hb0 := (Row.new w [.int .i64 k, .int .i64 n, .string s, .slice a la ca, .slice b lb cb, .slice c len cc] 28).alloc (.cells #[.int .i64 (d : Int)] 3)
    have hb1 := Row.new1 w (.cells [.int .i64 k, .int .i64 n, .string s, .slice a la ca, .slice b lb cb, .slice c len cc].toArray 28) [.int .i64 (d : Int)] 3
    have HI := Lib.hid (v_info (cs := [.int .i64 k, .int .i64 n, .string s, .slice a la ca, .slice b lb cb, .slice c len cc]) rfl)
    by_cases h5 : d ≤ 5
    · have g5 : (d : Int) ≤ 5 := by omega
      rw [decide_eq_true h5, Bool.true_and] at hmk
      have HBA := Lib.hid (fun wx => bare_any k n s a b c la ca lb cb len cc wx)
      have HFI := Lib.hid (fun wx hx hy => fit_any k n s names ids a b c la ca lb cb len cc hs hss h1c h2c wx hx hy)
      have HCF := Lib.hid (fun wx hx q p hf => cf_right c len cc css q p hlc wx hx hf)
      have H1 := Lib.hid h1
      have H2 := Lib.hid h2
      have H3 := Lib.hid h3
      have HP := Lib.hid hp
      have IH := Lib.hid ih
      have HMK := Lib.hid hmk
      have HB0 := Lib.hid hb0
      have HB1 := Lib.hid hb1
      have HW := Lib.hid hw
      clear ih hp h1 h2 h3 hmk hb0 hb1 hw hs hss h1c h2c hi hk hn h3c
      generalize bareB k n s la lb len = bb at *
      generalize fitB k n s names ids len = bf at *
      cases bb
      · skip
        go_enter Tryz.func81, Tryz.ntmps81
        go_wp2_with (refine wpList_load_guarded (by rfl) 28 (.tmp 2) rfl w.heap.size rfl 28 _ HB0.out Tryz.underlying28 rfl HI.out ?_)
        refine (HBA.out _).mono ?_
        rintro e W1 ⟨rfl, hb⟩
        have HB := Lib.hid hb
        clear hb
        go_wp2_with fail
        go_ret
        exact ⟨by rw [HMK.out]; rfl, HW.out.trans (HB.out.mono HW.out.size)⟩
      · cases bf
        · skip
          go_enter Tryz.func81, Tryz.ntmps81
          go_wp2_with (refine wpList_load_guarded (by rfl) 28 (.tmp 2) rfl w.heap.size rfl 28 _ HB0.out Tryz.underlying28 rfl HI.out ?_)
          refine (HBA.out _).mono ?_
          rintro e W1 ⟨rfl, hb⟩
          have HW1 := Lib.hid (HW.out.trans (hb.mono HW.out.size))
          have HB01 := Lib.hid (HB0.out.belowAll hb)
          clear hb
          go_wp2_with (refine wpList_load_guarded (by rfl) 28 (.tmp 2) rfl w.heap.size rfl 28 _ HB01.out Tryz.underlying28 rfl HI.out ?_)
          refine (HFI.out _ (H1.out.belowAll HW1.out) (H2.out.belowAll HW1.out)).mono ?_
          rintro e W2 ⟨rfl, hb⟩
          have HW2 := Lib.hid (HW1.out.trans (hb.mono HW1.out.size))
          clear hb
          go_wp2_with fail
          go_ret
          exact ⟨by rw [HMK.out]; rfl, HW2.out⟩
        · skip
          go_enter Tryz.func81, Tryz.ntmps81
          go_wp2_with (refine wpList_load_guarded (by rfl) 28 (.tmp 2) rfl w.heap.size rfl 28 _ HB0.out Tryz.underlying28 rfl HI.out ?_)
          refine (HBA.out _).mono ?_
          rintro e W1 ⟨rfl, hb⟩
          have HW1 := Lib.hid (HW.out.trans (hb.mono HW.out.size))
          have HB01 := Lib.hid (HB0.out.belowAll hb)
          have HB11 := Lib.hid (HB1.out.belowAll hb)
          clear hb
          go_wp2_with (refine wpList_load_guarded (by rfl) 28 (.tmp 2) rfl w.heap.size rfl 28 _ HB01.out Tryz.underlying28 rfl HI.out ?_)
          refine (HFI.out _ (H1.out.belowAll HW1.out) (H2.out.belowAll HW1.out)).mono ?_
          rintro e W2 ⟨rfl, hb⟩
          have HW2 := Lib.hid (HW1.out.trans (hb.mono HW1.out.size))
          have hb02 := HB01.out.belowAll hb
          have hb12 := HB11.out.belowAll hb
          have hc5 := hb02.cell (k := 5) (v := .slice c len cc) rfl
          have hc1 := hb12.cell (k := 0) (v := .int .i64 (d : Int)) rfl
          have hcf := HCF.out W2 (H3.out.below HW2.out) (.pointer (some ⟨w.heap.size + 1, 0, none⟩)) (fun j => !(parts j).rightAt (d + 1)) (fun j hj w' hbw =>
            rightc_any (css j) (HP.out j hj).length (w.heap.size + 1) d _ (by omega) w' ((hbw.cell (p := ⟨w.heap.size + 1, 0, none⟩) (lt_of_cell hc1)).trans hc1) (fun w1 hb1 =>
              IH.out j (css j) (d + 1) w1 ((HP.out j hj).later (HW2.out.trans ((hbw.trans (hb1.mono hbw.size)).mono HW2.out.size))) (by omega)))
          rw [show (List.range len).any (fun j => !(parts j).rightAt (d + 1)) = !(List.range len).all fun i => (parts i).rightAt (d + 1) by rw [← not_any, Bool.not_not]] at hcf
          have HCF2 := Lib.hid hcf
          clear hb hcf hb02 hb12
          generalize ((List.range len).all fun i => (parts i).rightAt (d + 1)) = ba at *
          go_wp2_with fail
          refine HCF2.out.mono ?_
          rintro e W3 ⟨rfl, hb⟩
          have HB := Lib.hid hb
          clear hb
          cases ba
          · go_wp2_with fail
            go_ret
            exact ⟨by rw [HMK.out]; rfl, HW2.out.trans (HB.out.mono HW2.out.size)⟩
          · go_wp2_with fail
            go_ret
            exact ⟨by rw [HMK.out]; rfl, HW2.out.trans (HB.out.mono HW2.out.size)⟩
    · have g5 : ¬ (d : Int) ≤ 5 := by omega
      rw [decide_eq_false h5] at hmk
      have HMK := Lib.hid hmk
      have HW := Lib.hid hw
      clear ih hp h1 h2 h3 hmk hb0 hb1 hw
      go_enter Tryz.func81, Tryz.ntmps81
      go_wp2_with fail
      go_ret
      exact ⟨by rw [HMK.out]; rfl, HW.out⟩
theorem vright_any (v : Vt) (cs : List Value) (w : World) (h : VAt w v cs) :
    Calls Tryz.prog 39 #[.agg cs.toArray] w fun e w' => e = .returned (.bool (v.rightAt 1)) ∧ Below w.heap.size w w' := by
  have hw := Below.alloc1 w (.cells cs.toArray 28)
  have HR := Lib.hid (right_any v cs 1 _ (h.later hw) (by decide))
  have HW := Lib.hid hw
  have HB0 := Lib.hid (Row.new w cs 28)
  have HI := Lib.hid (v_info h.length)
  clear hw h
  go_enter Tryz.func39, Tryz.ntmps39
  go_wp2_with (refine wpList_load_row rfl 28 (.tmp 1) rfl w.heap.size rfl 28 _ (0, 0) _ HB0.out Tryz.underlying28 rfl HI.out ?_)
  refine HR.out.mono ?_
  rintro e W1 ⟨rfl, hb⟩
  have HB := Lib.hid hb
  clear hb
  go_wp2_with fail
  go_ret
  exact ⟨rfl, HW.out.trans (HB.out.mono HW.out.size)⟩
end

end Go.Proofs.YtmiadkhfjkaidaaGreatDoor
