/- Whether a text is a name: the document's Name, the program's. -/
import Derived.Test.YtpegkalhjnldkaaTw
import Derived.Test.YtpegkalhjnldkaaGives
namespace Go.Proofs.Ytpegkalhjnldkaa
set_option maxRecDepth 100000
set_option linter.unusedSimpArgs false
set_option linter.unusedVariables false
open Go.RowKit

theorem sat_lt (s : ByteArray) (i : Nat) : sat s i < 256 := UInt8.toNat_lt _
theorem sat_run (s : ByteArray) (i : Nat) (hi : i < s.size) (w : World) : (Instr.index 9 (.string s) (.int .i64 (i : Int))).run Try.prog w = .ok (.int .u8 ((sat s i : Nat) : Int)) w := by
  rw [run_index_string w 9 s .i64 (i : Int) Try.underlying9]
  simp [sat, hi]
  rfl
def lets (s : ByteArray) (n : Nat) : Bool := (List.range n).all fun i => letB (sat s i)
theorem lets_more (s : ByteArray) (n : Nat) : lets s (n + 1) = (lets s n && letB (sat s n)) := by
  unfold lets
  rw [List.range_succ, List.all_append]
  simp
theorem lets_no {s : ByteArray} {n m : Nat} (h : letB (sat s n) = false) (hm : n < m) : lets s m = false := by
  unfold lets
  rw [← Bool.not_eq_true, List.all_eq_true]
  intro hall
  rw [hall n (List.mem_range.2 hm)] at h
  cases h
theorem name_lets (s : ByteArray) : nameB s = (decide (1 ≤ s.size) && decide (s.size ≤ 12) && lets s s.size) := rfl
theorem letB_iff (c : Nat) : letB c = true ↔ (97 ≤ c ∧ c ≤ 122) ∨ (48 ≤ c ∧ c ≤ 57) ∨ c = 95 := by
  unfold letB
  simp only [Bool.or_eq_true, Bool.and_eq_true, decide_eq_true_eq, or_assoc]

end Go.Proofs.Ytpegkalhjnldkaa
