/- Which paths are right: the program's, the document's; for any path. -/
import Derived.Test.YtpegkalhjnldkaaSt
namespace Go.Proofs.Ytpegkalhjnldkaa
set_option maxRecDepth 100000
set_option linter.unusedSimpArgs false
set_option linter.unusedVariables false
open Go.RowKit

def stB (x : Stp) : Bool := (nameB x.s && x.id == 0) || (decide (x.s.size = 0) && x.id != 0)
def rightP (l : List Stp) : Bool := decide (l.length ≤ 8) && (List.range l.length).all fun i => stB (stp l i)
theorem empty_of {s : ByteArray} (h : s.size = 0) : s = ByteArray.empty := by
  obtain ⟨⟨d⟩⟩ := s
  cases d with
  | nil => rfl
  | cons x d => simp [ByteArray.size] at h
theorem name_size {s : ByteArray} (h : nameB s = true) : s.size ≠ 0 ∧ s.size ≤ 12 := by
  rw [name_lets, Bool.and_eq_true, Bool.and_eq_true] at h
  have h1 := of_decide_eq_true h.1.1
  have h2 := of_decide_eq_true h.1.2
  omega
theorem isEmpty_ne {s : ByteArray} (h : s.size ≠ 0) : s.toList.isEmpty = false := by
  have h2 : s.toList.length = s.size := by rw [ByteArray.toList_eq]; simp
  cases hs : s.toList with
  | nil => rw [hs] at h2; exact absurd h2.symm h
  | cons x l => rfl
theorem toList_ne {s : ByteArray} (h : s.size ≠ 0) : ¬ s.toList = [] := fun e => h (by
  have h2 : s.toList.length = s.size := by rw [ByteArray.toList_eq]; simp
  rw [e] at h2
  simpa using h2.symm)

/-- What IndexFunc finds: the first one, or none. -/
def IsFst (p : Nat → Bool) (n : Nat) (r : Int) : Prop := (r = -1 ∧ ∀ i, i < n → p i = false) ∨ ∃ j : Nat, j < n ∧ r = j ∧ p j = true
theorem IsFst.any {p : Nat → Bool} {n : Nat} {r : Int} (h : IsFst p n r) : (decide (0 ≤ r)) = (List.range n).any p := by
  rcases h with ⟨rfl, h⟩ | ⟨j, hj, rfl, hp⟩
  · rw [show decide ((0 : Int) ≤ -1) = false from rfl]
    symm
    rw [← Bool.not_eq_true, List.any_eq_true]
    rintro ⟨i, hi, hp⟩
    rw [h i (List.mem_range.1 hi)] at hp
    cases hp
  · rw [decide_eq_true (by omega)]
    symm
    rw [List.any_eq_true]
    exact ⟨j, List.mem_range.2 hj, hp⟩

theorem s_not_any (p : Nat → Bool) (n : Nat) : (!(List.range n).any fun i => !p i) = (List.range n).all p := by
  rw [Bool.eq_iff_iff]
  simp
theorem rightP_no {l : List Stp} {j : Nat} (hj : j < l.length) (h : stB (stp l j) = false) : rightP l = false := by
  unfold rightP
  rw [← Bool.not_eq_true, Bool.and_eq_true, List.all_eq_true]
  rintro ⟨_, h2⟩
  rw [h2 j (List.mem_range.2 hj)] at h
  cases h
theorem rightP_yes {l : List Stp} (h : ∀ j, j < l.length → stB (stp l j) = true) : rightP l = decide (l.length ≤ 8) := by
  unfold rightP
  rw [show ((List.range l.length).all fun i => stB (stp l i)) = true from List.all_eq_true.2 fun i hi => h i (List.mem_range.1 hi), Bool.and_true]

end Go.Proofs.Ytpegkalhjnldkaa
