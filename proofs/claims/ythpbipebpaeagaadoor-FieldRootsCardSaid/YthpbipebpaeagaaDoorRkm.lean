/- The document's powers and halves: plain arithmetic. -/
import Derived.Test.YthpbipebpaeagaaDoorRj
import Derived.Test.YthpbipebpaeagaaDoorPowF
namespace Go.Proofs.YthpbipebpaeagaaDoor
open Go.RowKit

theorem pw_one {A e i : Nat} (h : e / 2 ^ i % 2 = 1) : A ^ (e % 2 ^ i) % pp * (A ^ (2 ^ i) % pp) % pp = A ^ (e % 2 ^ (i + 1)) % pp := by
  rw [Nat.pow_succ 2 i, Nat.mod_mul, h, Nat.mul_one, Nat.pow_add, ← Nat.mul_mod]
theorem pw_no {e i : Nat} (h : ¬ e / 2 ^ i % 2 = 1) : e % 2 ^ (i + 1) = e % 2 ^ i := by
  have h0 : e / 2 ^ i % 2 = 0 := by omega
  rw [Nat.pow_succ 2 i, Nat.mod_mul, h0, Nat.mul_zero, Nat.add_zero]
theorem pw_sq (A i : Nat) : A ^ (2 ^ i) % pp * (A ^ (2 ^ i) % pp) % pp = A ^ (2 ^ (i + 1)) % pp := by
  rw [← Nat.mul_mod, ← Nat.pow_add, Nat.pow_succ 2 i]
  congr 2
  omega
/-- Squares of squares; the power by the lowest bits. -/
def pwA (A i : Nat) : Nat := A ^ (2 ^ i) % pp
def pwO (A e i : Nat) : Nat := A ^ (e % 2 ^ i) % pp
theorem pwA_zero {A : Nat} (h : A < pp) : pwA A 0 = A := by
  unfold pwA
  rw [Nat.pow_zero, Nat.pow_one, Nat.mod_eq_of_lt h]
theorem pwO_zero (A e : Nat) : pwO A e 0 = 1 := by
  unfold pwO
  rw [Nat.pow_zero, Nat.mod_one, Nat.pow_zero]
  rfl
theorem pwA_sq (A i : Nat) : pwA A i * pwA A i % pp = pwA A (i + 1) := pw_sq A i
theorem pwO_one {A e i : Nat} (h : e / 2 ^ i % 2 = 1) : pwO A e i * pwA A i % pp = pwO A e (i + 1) := pw_one h
theorem pwO_no {A e i : Nat} (h : ¬ e / 2 ^ i % 2 = 1) : pwO A e (i + 1) = pwO A e i := by
  unfold pwO
  rw [pw_no h]
theorem pwO_all {A e : Nat} (h : e < 2 ^ 256) : pwO A e 256 = A ^ e % pp := by
  unfold pwO
  rw [Nat.mod_eq_of_lt h]
theorem pwA_lt (A i : Nat) : pwA A i < W8 := Nat.lt_trans (Nat.mod_lt _ (by decide)) pp_W8
theorem pwO_lt (A e i : Nat) : pwO A e i < W8 := Nat.lt_trans (Nat.mod_lt _ (by decide)) pp_W8
/-- Half a number, digit by digit, the highest one first. -/
def hf (N k i : Nat) : Nat := if i < k then dw N i else dw (N / 2) i
theorem hf_dig (N i : Nat) : dw (N / 2) i = dw N i / 2 + dw N (i + 1) % 2 * 2147483648 := by
  have h1 : N / 2 / 4294967296 ^ i = N / 4294967296 ^ i / 2 := by rw [Nat.div_div_eq_div_mul, Nat.div_div_eq_div_mul, Nat.mul_comm]
  have h2 := dw_succ N i
  have h3 := dw_succ N (i + 1)
  have l0 := dw_lt N i
  have e : dw (N / 2) i = N / 4294967296 ^ i / 2 % 4294967296 := by
    unfold dw
    rw [h1]
  rw [e]
  generalize N / 4294967296 ^ (i + 1 + 1) = c at *
  generalize N / 4294967296 ^ (i + 1) = b at *
  generalize N / 4294967296 ^ i = a at *
  omega
theorem hf_all (N : Nat) : Tabs .u32 (hf N 0) 8 = Nw (N / 2) := Tabs_congr _ fun i _ => by unfold hf; rw [if_neg (by omega)]
theorem hf_none (N : Nat) : Tabs .u32 (hf N 8) 8 = Nw N := Tabs_congr _ fun i h => by unfold hf; rw [if_pos h]
theorem hf_at (N : Nat) {k : Nat} (hk : k < 8) : (Tabs .u32 (hf N (k + 1)) 8)[k]? = some (.int .u32 ((dw N k : Nat) : Int)) := by
  rw [Tabs_get _ _ _ hk]
  unfold hf
  rw [if_pos (by omega)]
theorem hf_set (N : Nat) {k : Nat} (hk : k < 8) {v : Nat} (hv : v = dw N k / 2 + dw N (k + 1) % 2 * 2147483648) : (Tabs .u32 (hf N (k + 1)) 8).set k (.int .u32 ((v : Nat) : Int)) = Tabs .u32 (hf N k) 8 := by
  refine List.ext_getElem? fun j => ?_
  by_cases hj : j < 8
  · rw [List.getElem?_set, Tabs_get _ _ _ hj, Tabs_get _ _ _ hj]
    unfold hf
    by_cases e : k = j
    · subst e; rw [if_pos rfl, if_pos (by rw [Tabs_length]; exact hk), if_neg (by omega), hf_dig, hv]
    · rw [if_neg e]
      by_cases h2 : j < k
      · rw [if_pos h2, if_pos (by omega)]
      · rw [if_neg h2, if_neg (by omega)]
  · rw [List.getElem?_eq_none (by rw [List.length_set, Tabs_length]; omega), List.getElem?_eq_none (by rw [Tabs_length]; omega)]

end Go.Proofs.YthpbipebpaeagaaDoor
