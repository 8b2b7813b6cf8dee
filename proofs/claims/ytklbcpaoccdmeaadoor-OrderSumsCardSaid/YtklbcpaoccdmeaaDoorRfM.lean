/- Digits of a byte, as one reckons by hand: plain arithmetic. -/
import Derived.Test.YtklbcpaoccdmeaaDoorRulM
namespace Go.Proofs.YtklbcpaoccdmeaaDoor
open Go.RowKit

theorem byt_succ (N i : Nat) : N / 256 ^ i = 256 * (N / 256 ^ (i + 1)) + byt N i := by
  unfold byt
  rw [← pow256, Nat.pow_succ, ← Nat.div_div_eq_div_mul]
  omega
theorem byt_of_lt {N i : Nat} (h : N < 256 ^ i) : byt N i = 0 := by
  unfold byt
  rw [← pow256, Nat.div_eq_of_lt h]
theorem byt_of_lt' {N n i : Nat} (h : N < 256 ^ n) (hi : n ≤ i) : byt N i = 0 := byt_of_lt (Nat.lt_of_lt_of_le h (Nat.pow_le_pow_right (by decide) hi))
theorem byt_shift (N up i : Nat) : byt (N * 256 ^ up) i = if i < up then 0 else byt N (i - up) := by
  unfold byt
  rw [← pow256]
  by_cases h : i < up
  · rw [if_pos h, show up = i + (up - i - 1 + 1) by omega, Nat.pow_add, ← Nat.mul_assoc, Nat.mul_right_comm, Nat.mul_div_cancel _ (Nat.pow_pos (by decide)), Nat.pow_succ, ← Nat.mul_assoc, Nat.mul_mod_left]
  · rw [if_neg h, ← pow256]
    congr 1
    rw [show i = up + (i - up) by omega, Nat.pow_add, ← Nat.div_div_eq_div_mul, Nat.mul_div_cancel _ (Nat.pow_pos (by decide)), show up + (i - up) - up = i - up by omega]
theorem cmp_same {A B i : Nat} (h : A / 256 ^ (i + 1) = B / 256 ^ (i + 1)) (he : byt A i = byt B i) : A / 256 ^ i = B / 256 ^ i := by
  rw [byt_succ A, byt_succ B, h, he]
theorem cmp_less {A B i : Nat} (h : A / 256 ^ (i + 1) = B / 256 ^ (i + 1)) (hne : byt A i ≠ byt B i) : decide (byt A i < byt B i) = decide (A < B) := by
  have ha := byt_succ A i
  have hb := byt_succ B i
  rw [h] at ha
  have hlt : ∀ {X Y : Nat}, X / 256 ^ i < Y / 256 ^ i → X < Y := fun {X Y} hq => by
    rcases Nat.lt_or_ge X Y with h1 | h1
    · exact h1
    · exact absurd (Nat.div_le_div_right (c := 256 ^ i) h1) (by omega)
  by_cases hl : byt A i < byt B i
  · rw [decide_eq_true hl, decide_eq_true (hlt (by omega))]
  · have : B < A := hlt (by omega)
    rw [decide_eq_false hl, decide_eq_false (by omega)]

/-- The borrow ahead of a digit. -/
def brb (A B k : Nat) : Nat := if A % 256 ^ k < B % 256 ^ k then 1 else 0
theorem brb_le (A B k : Nat) : brb A B k ≤ 1 := by unfold brb; split <;> omega
theorem brb_zero (A B : Nat) : brb A B 0 = 0 := by
  unfold brb
  rw [Nat.pow_zero, Nat.mod_one, Nat.mod_one, if_neg (by omega)]
theorem mod_byt (N k : Nat) : N % 256 ^ (k + 1) = N % 256 ^ k + 256 ^ k * byt N k := by
  rw [mod_byte, Nat.mul_comm]
theorem brb_succ (A B k : Nat) : brb A B (k + 1) = if byt A k < byt B k + brb A B k then 1 else 0 := by
  have h : (A % 256 ^ (k + 1) < B % 256 ^ (k + 1)) ↔ (byt A k < byt B k + brb A B k) := by
    rw [mod_byt, mod_byt, lt_lex (Nat.mod_lt A (Nat.pow_pos (by decide))) (Nat.mod_lt B (Nat.pow_pos (by decide)))]
    unfold brb
    split <;> omega
  show (if A % 256 ^ (k + 1) < B % 256 ^ (k + 1) then 1 else 0) = _
  simp only [h]
/-- The carry ahead of a digit; the sum's digits. -/
def cyb (A B k : Nat) : Nat := (A % 256 ^ k + B % 256 ^ k) / 256 ^ k
theorem cyb_zero (A B : Nat) : cyb A B 0 = 0 := by
  unfold cyb
  rw [Nat.pow_zero, Nat.mod_one, Nat.mod_one]
theorem p256 (k : Nat) : 0 < 256 ^ k := Nat.pow_pos (by decide)
theorem cyb_le (A B k : Nat) : cyb A B k ≤ 1 := by
  unfold cyb
  have h1 := Nat.mod_lt A (p256 k)
  have h2 := Nat.mod_lt B (p256 k)
  have : (A % 256 ^ k + B % 256 ^ k) / 256 ^ k < 2 := (Nat.div_lt_iff_lt_mul (p256 k)).2 (by omega)
  omega
theorem sum_byt (A B k : Nat) : byt A k + byt B k + cyb A B k = byt (A + B) k + 256 * cyb A B (k + 1) := by
  have e : (A + B) / 256 ^ k = cyb A B k + A / 256 ^ k + B / 256 ^ k := by
    have h1 : A + B = A % 256 ^ k + B % 256 ^ k + 256 ^ k * (A / 256 ^ k + B / 256 ^ k) := by
      rw [Nat.mul_add]
      have := Nat.mod_add_div A (256 ^ k)
      have := Nat.mod_add_div B (256 ^ k)
      omega
    rw [h1, Nat.add_mul_div_left _ _ (p256 k)]
    unfold cyb
    omega
  have e2 : (A + B) / 256 ^ (k + 1) = cyb A B (k + 1) + A / 256 ^ (k + 1) + B / 256 ^ (k + 1) := by
    have h1 : A + B = A % 256 ^ (k + 1) + B % 256 ^ (k + 1) + 256 ^ (k + 1) * (A / 256 ^ (k + 1) + B / 256 ^ (k + 1)) := by
      rw [Nat.mul_add]
      have := Nat.mod_add_div A (256 ^ (k + 1))
      have := Nat.mod_add_div B (256 ^ (k + 1))
      omega
    rw [h1, Nat.add_mul_div_left _ _ (p256 (k + 1))]
    unfold cyb
    omega
  have h3 := byt_succ (A + B) k
  have h4 := byt_succ A k
  have h5 := byt_succ B k
  omega
theorem dif_byt {A B D : Nat} (h : D + B = A) (k : Nat) : byt D k + byt B k + brb A B k = byt A k + 256 * brb A B (k + 1) := by
  have hc : ∀ j, cyb D B j = brb A B j := fun j => by
    subst h
    unfold cyb brb
    have ha := Nat.mod_lt D (p256 j)
    have hb := Nat.mod_lt B (p256 j)
    rw [Nat.add_mod]
    generalize D % 256 ^ j = d at *
    generalize B % 256 ^ j = b at *
    generalize 256 ^ j = m at *
    by_cases hlt : d + b < m
    · rw [Nat.mod_eq_of_lt hlt, Nat.div_eq_of_lt hlt, if_neg (by omega)]
    · have e : d + b = (d + b - m) + m := by omega
      have e1 : (d + b) % m = d + b - m := by rw [e, Nat.add_mod_right, Nat.mod_eq_of_lt (by omega)]; omega
      have e2 : (d + b) / m = 1 := by rw [e, Nat.add_div_right _ (by omega), Nat.div_eq_of_lt (by omega)]
      rw [e1, e2, if_pos (by omega)]
  have hs := sum_byt D B k
  rw [hc, hc, h] at hs
  exact hs

/-- Digits: the first ones of one number, the others of another one. -/
def mixb (D A k i : Nat) : Nat := if i < k then byt D i else byt A i
theorem mixb_zero (D A n : Nat) : Tabs .i64 (mixb D A 0) n = Tabs .i64 (byt A) n := Tabs_congr _ fun i _ => by unfold mixb; rw [if_neg (by omega)]
theorem mixb_all (D A n : Nat) : Tabs .i64 (mixb D A n) n = Tabs .i64 (byt D) n := Tabs_congr _ fun i h => by unfold mixb; rw [if_pos h]
theorem mixb_set (D A n : Nat) {k : Nat} (hk : k < n) : (Tabs .i64 (mixb D A k) n).set k (.int .i64 ((byt D k : Nat) : Int)) = Tabs .i64 (mixb D A (k + 1)) n := by
  refine List.ext_getElem? fun j => ?_
  by_cases hj : j < n
  · rw [List.getElem?_set, Tabs_get _ _ _ hj, Tabs_get _ _ _ hj]
    unfold mixb
    by_cases e : k = j
    · subst e; rw [if_pos rfl, if_pos (by rw [Tabs_length]; exact hk), if_pos (by omega)]
    · rw [if_neg e]
      by_cases h2 : j < k
      · rw [if_pos h2, if_pos (by omega)]
      · rw [if_neg h2, if_neg (by omega)]
  · rw [List.getElem?_eq_none (by rw [List.length_set, Tabs_length]; omega), List.getElem?_eq_none (by rw [Tabs_length]; omega)]
theorem Tabs_snoc (K : IntKind) (f : Nat → Nat) (n : Nat) : Tabs K f (n + 1) = Tabs K f n ++ [.int K ((f n : Nat) : Int)] := by
  unfold Tabs
  rw [List.range_succ, List.map_append]
  rfl
theorem Tabs_ones (K : IntKind) (f : Nat → Nat) (n : Nat) : ∀ u ∈ Tabs K f n, u.oneCell' = true := by
  intro v hv
  simp only [Tabs, List.mem_map] at hv
  obtain ⟨i, _, rfl⟩ := hv
  rfl

end Go.Proofs.YtklbcpaoccdmeaaDoor
