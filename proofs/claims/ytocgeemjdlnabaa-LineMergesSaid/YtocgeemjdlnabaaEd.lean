/- entry.Less, entry.Seed. -/
import Derived.Test.YtocgeemjdlnabaaEc
import Derived.Laws.Bits64b
namespace Go.Proofs.Ytocgeemjdlnabaa
set_option maxRecDepth 100000
set_option linter.unusedSimpArgs false
set_option linter.unusedVariables false
open Go.RowKit

theorem Hs.cf_lt (a b : Hs) : decide (Hs.cf a b < 0) = decide (a.n < b.n) := by
  unfold Hs.cf Lib.compareInt
  by_cases h1 : a.n < b.n
  · rw [if_pos (by omega)]; simp [h1]
  · rw [if_neg (by omega)]
    by_cases h2 : b.n < a.n
    · rw [if_pos (by omega)]; simp [h1]
    · rw [if_neg (by omega)]; simp [h1]
theorem hs_info (a : Hs) : (Try.prog.info? 24).map (·.size) = some a.c.toArray.size := by
  rw [List.size_toArray, a.c_len]; kernel_rfl
theorem below_growE (W : World) (q : Nat) (os : Array Obj) : Below W.heap.size W (Sort.grow (W.drewN q) os) := by
  refine ⟨rfl, rfl, rfl, ?_, fun g hg => ?_⟩
  · show W.heap.size ≤ (W.heap ++ os).size
    rw [Array.size_append]; omega
  · show (W.heap ++ os)[g]? = W.heap[g]?
    rw [Array.getElem?_append_left hg]
theorem or_digitE {N u : Nat} (hN : N < 72057594037927936) (hu : u < 256) : bits .or .u64 ((N : Int) * 256) (u : Int) = ((N * 256 + u : Nat) : Int) := by
  have h1 : ((N : Int) * 256) = ((N * 256 : Nat) : Int) := by omega
  rw [h1, bits_or_u64_nat _ _ (by omega) (by omega)]
  have h2 := Nat.two_pow_add_eq_or_of_lt (i := 8) (b := u) (by omega) N
  rw [Nat.mul_comm N 256]
  congr 1
  exact h2.symm
theorem num_takeE {l : List UInt8} {i : Nat} (h : i < l.length) : num (l.take (i + 1)) = num (l.take i) * 256 + (l.getD i 0).toNat := by
  induction i generalizing l with
  | zero =>
    cases l with
    | nil => simp at h
    | cons a l => simp [num]
  | succ i ih =>
    cases l with
    | nil => simp at h
    | cons a l =>
      have hl : i < l.length := by simpa using h
      have h1 := ih hl
      rw [List.take_succ_cons, List.take_succ_cons, num, num, h1, List.getD_cons_succ]
      rw [List.length_take, List.length_take, Nat.min_eq_left (by omega), Nat.min_eq_left (by omega), Nat.pow_succ, Nat.add_mul]
      rw [Nat.mul_assoc]
      omega
end Go.Proofs.Ytocgeemjdlnabaa
