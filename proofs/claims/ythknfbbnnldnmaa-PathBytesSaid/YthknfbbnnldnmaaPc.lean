/- A schema's words: has, fresh, choice. -/
import Derived.Test.YthknfbbnnldnmaaPl
namespace Go.Proofs.Ythknfbbnnldnmaa
set_option maxRecDepth 100000
set_option linter.unusedSimpArgs false
set_option linter.unusedVariables false
open Go.RowKit

def hasB (l : List ByteArray) (n : Nat) (s : ByteArray) : Bool := (List.range n).any fun j => eqS (nth l j) s
/-- Whether a word may stand behind these. -/
def newB (l : List ByteArray) (n : Nat) (s : ByteArray) : Bool := nameB s && (List.range n).all fun j => !eqS s (nth l j)
theorem eqS_comm (a b : ByteArray) : eqS a b = eqS b a := by unfold eqS; rw [Bool.eq_iff_iff, beq_iff_eq, beq_iff_eq]; exact eq_comm
theorem newB_eq (l : List ByteArray) (n : Nat) (s : ByteArray) : newB l n s = (nameB s && !hasB l n s) := by
  unfold newB hasB
  congr 1
  rw [Bool.eq_iff_iff, Bool.not_eq_true', ← Bool.not_eq_true, List.any_eq_true, List.all_eq_true]
  constructor
  · rintro h ⟨j, hj, he⟩
    have h1 := h j hj
    rw [eqS_comm, he] at h1
    cases h1
  · intro h j hj
    rw [Bool.not_eq_true', ← Bool.not_eq_true, eqS_comm]
    exact fun e => h ⟨j, hj, e⟩
theorem newB_take (l : List ByteArray) (i : Nat) (v : ByteArray) : newB (l.take i) i v = newB l i v := by
  unfold newB
  rw [Bool.eq_iff_iff]
  simp only [Bool.and_eq_true, List.all_eq_true, List.mem_range]
  exact ⟨fun h => ⟨h.1, fun j hj => by have := h.2 j hj; rwa [nth_take hj] at this⟩, fun h => ⟨h.1, fun j hj => by rw [nth_take hj]; exact h.2 j hj⟩⟩
def wordsN (l : List ByteArray) (n : Nat) : Bool := (List.range n).all fun i => newB l i (nth l i)
theorem wordsN_more (l : List ByteArray) {n : Nat} : wordsN l (n + 1) = (wordsN l n && newB l n (nth l n)) := by
  unfold wordsN
  rw [List.range_succ, List.all_append]
  simp only [List.all_cons, List.all_nil, Bool.and_true]
theorem wordsN_no {l : List ByteArray} {n m : Nat} (h : wordsN l n = false) (hm : n ≤ m) : wordsN l m = false := by
  unfold wordsN at *
  rw [← Bool.not_eq_true, List.all_eq_true] at *
  exact fun h' => h fun i hi => h' i (List.mem_range.2 (by have := List.mem_range.1 hi; omega))
theorem words_n (l : List ByteArray) : wordsB l = wordsN l l.length := rfl
def choiceB (l : List ByteArray) : Bool := decide (1 ≤ l.length) && decide (l.length ≤ 8) && wordsB l

end Go.Proofs.Ythknfbbnnldnmaa
