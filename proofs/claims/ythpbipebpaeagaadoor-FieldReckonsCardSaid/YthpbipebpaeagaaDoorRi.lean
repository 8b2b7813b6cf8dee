/- The document's product of numbers of eight digits: plain arithmetic. -/
import Derived.Test.YthpbipebpaeagaaDoorRh
namespace Go.Proofs.YthpbipebpaeagaaDoor
open Go.RowKit

theorem st_div (S z n : Nat) : (S + 4294967296 ^ n * z) / 4294967296 ^ n = S / 4294967296 ^ n + z := Nat.add_mul_div_left _ _ (pW n)
theorem st_low (S z : Nat) {k n : Nat} (hk : k < n) : dw (S + 4294967296 ^ n * z) k = dw S k := by
  unfold dw
  have e : (4294967296 : Nat) ^ n = 4294967296 ^ k * (4294967296 * 4294967296 ^ (n - k - 1)) := by
    rw [← Nat.pow_succ', ← Nat.pow_add]
    congr 1
    omega
  rw [e, Nat.mul_assoc, Nat.mul_assoc, Nat.add_mul_div_left _ _ (pW k), Nat.add_mul_mod_self_left]
theorem st_dig (S z n : Nat) : dw (S + 4294967296 ^ n * z) n = (S / 4294967296 ^ n + z) % 4294967296 := by
  unfold dw
  rw [st_div]
theorem st_over (S z n : Nat) : (S + 4294967296 ^ n * z) / 4294967296 ^ (n + 1) = (S / 4294967296 ^ n + z) / 4294967296 := by
  rw [Nat.pow_succ, ← Nat.div_div_eq_div_mul, st_div]
theorem mx_step (K : IntKind) (S X z : Nat) {n L : Nat} (hn : n < L) {v : Nat} (hv : v = (S / 4294967296 ^ n + z) % 4294967296) :
    (Tabs K (mixq S X n) L).set n (.int K ((v : Nat) : Int)) = Tabs K (mixq (S + 4294967296 ^ n * z) X (n + 1)) L := by
  refine List.ext_getElem? fun j => ?_
  by_cases hj : j < L
  · rw [List.getElem?_set, Tabs_get _ _ _ hj, Tabs_get _ _ _ hj]
    unfold mixq
    by_cases e : n = j
    · subst e
      rw [if_pos rfl, if_pos (by rw [Tabs_length]; exact hn), if_pos (by omega), st_dig, hv]
    · rw [if_neg e]
      by_cases h2 : j < n
      · rw [if_pos h2, if_pos (by omega), st_low _ _ h2]
      · rw [if_neg h2, if_neg (by omega)]
  · rw [List.getElem?_eq_none (by rw [List.length_set, Tabs_length]; omega), List.getElem?_eq_none (by rw [Tabs_length]; omega)]
theorem mx_at (K : IntKind) (S X : Nat) {n L : Nat} (hn : n < L) : (Tabs K (mixq S X n) L)[n]? = some (.int K ((dw X n : Nat) : Int)) := by
  rw [Tabs_get _ _ _ hn]
  unfold mixq
  rw [if_neg (by omega)]
theorem dw_mod (X : Nat) {k n : Nat} (hk : k < n) : dw (X % 4294967296 ^ n) k = dw X k := by
  have h := st_low (X % 4294967296 ^ n) (X / 4294967296 ^ n) hk
  rw [Nat.mod_add_div] at h
  exact h.symm

/-- What lies in the digits of a product after so many rounds, and what is carried. -/
def sI (A B i j : Nat) : Nat := A % 4294967296 ^ i * B % 4294967296 ^ (i + j) + 4294967296 ^ i * (dw A i * (B % 4294967296 ^ j))
def cI (A B i j : Nat) : Nat := sI A B i j / 4294967296 ^ (i + j)
theorem sI_succ (A B i j : Nat) : sI A B i (j + 1) = sI A B i j + 4294967296 ^ (i + j) * (dw (A % 4294967296 ^ i * B) (i + j) + dw A i * dw B j) := by
  unfold sI
  rw [show i + (j + 1) = i + j + 1 from rfl, mod_dw, mod_dw B j]
  generalize A % 4294967296 ^ i * B = X
  generalize dw A i = a
  generalize dw B j = b
  generalize B % 4294967296 ^ j = r
  rw [Nat.mul_add a, Nat.mul_add (4294967296 ^ i), Nat.mul_add (4294967296 ^ (i + j))]
  have e : 4294967296 ^ i * (a * (4294967296 ^ j * b)) = 4294967296 ^ (i + j) * (a * b) := by
    rw [Nat.pow_add, Nat.mul_left_comm a, Nat.mul_assoc (4294967296 ^ i)]
  rw [e]
  omega
theorem cI_zero (A B i : Nat) : cI A B i 0 = 0 := by
  unfold cI sI
  rw [Nat.pow_zero, Nat.mod_one, Nat.mul_zero, Nat.mul_zero, Nat.add_zero, Nat.add_zero]
  exact Nat.div_eq_of_lt (Nat.mod_lt _ (pW i))
theorem cI_lt (A B i j : Nat) : cI A B i j < 4294967296 := by
  unfold cI
  refine (Nat.div_lt_iff_lt_mul (pW _)).2 ?_
  unfold sI
  have h1 := Nat.mod_lt (A % 4294967296 ^ i * B) (pW (i + j))
  have h2 : dw A i * (B % 4294967296 ^ j) ≤ 4294967295 * 4294967296 ^ j := Nat.mul_le_mul (by have := dw_lt A i; omega) (Nat.le_of_lt (Nat.mod_lt _ (pW j)))
  have h3 := Nat.mul_le_mul_left (4294967296 ^ i) h2
  have e : 4294967296 ^ i * (4294967295 * 4294967296 ^ j) = 4294967295 * 4294967296 ^ (i + j) := by rw [Nat.mul_left_comm, ← Nat.pow_add]
  rw [e] at h3
  generalize 4294967296 ^ (i + j) = m at *
  omega
/-- One digit more. -/
theorem cI_step (A B i j : Nat) : (cI A B i j + (dw (A % 4294967296 ^ i * B) (i + j) + dw A i * dw B j)) / 4294967296 = cI A B i (j + 1) := by
  unfold cI
  rw [sI_succ, show i + (j + 1) = i + j + 1 from rfl, st_over]
theorem tI_zero (A B i L : Nat) : Tabs .u64 (mixq (sI A B i 0) (A % 4294967296 ^ i * B) (i + 0)) L = Tabs .u64 (dw (A % 4294967296 ^ i * B)) L := Tabs_congr _ fun k _ => by
  unfold mixq
  split
  · unfold sI
    rw [Nat.pow_zero, Nat.mod_one, Nat.mul_zero, Nat.mul_zero, Nat.add_zero, dw_mod _ (by assumption)]
  · rfl
theorem tI_step (A B i j : Nat) (h : i + j < 16) {v : Nat} (hv : v = (cI A B i j + (dw (A % 4294967296 ^ i * B) (i + j) + dw A i * dw B j)) % 4294967296) :
    (Tabs .u64 (mixq (sI A B i j) (A % 4294967296 ^ i * B) (i + j)) 16).set (i + j) (.int .u64 ((v : Nat) : Int)) = Tabs .u64 (mixq (sI A B i (j + 1)) (A % 4294967296 ^ i * B) (i + (j + 1))) 16 := by
  rw [sI_succ]
  exact mx_step _ _ _ _ h hv
theorem X_lt (A i : Nat) {B : Nat} (hB : B < W8) : A % 4294967296 ^ i * B < 4294967296 ^ (i + 8) := by
  rw [Nat.pow_add]
  exact Nat.mul_lt_mul'' (Nat.mod_lt _ (pW i)) hB
theorem sI_end (A i : Nat) {B : Nat} (hB : B < W8) : sI A B i 8 = A % 4294967296 ^ (i + 1) * B := by
  unfold sI
  rw [Nat.mod_eq_of_lt (X_lt A i hB), Nat.mod_eq_of_lt (show B < 4294967296 ^ 8 from hB), mod_dw, Nat.add_mul, Nat.mul_assoc]
theorem tI_end (A i : Nat) {B : Nat} (hB : B < W8) (hi : i + 8 < 16) : (Tabs .u64 (mixq (sI A B i 8) (A % 4294967296 ^ i * B) (i + 8)) 16).set (i + 8) (.int .u64 ((cI A B i 8 : Nat) : Int)) = Tabs .u64 (dw (A % 4294967296 ^ (i + 1) * B)) 16 := by
  have hX := X_lt A i hB
  have hX' := X_lt A (i + 1) hB
  have he := sI_end A i hB
  have hc : cI A B i 8 = dw (A % 4294967296 ^ (i + 1) * B) (i + 8) := by
    unfold cI dw
    rw [he]
    refine (Nat.mod_eq_of_lt ((Nat.div_lt_iff_lt_mul (pW _)).2 ?_)).symm
    rw [← Nat.pow_succ']
    rw [show (i + 8).succ = i + 1 + 8 by omega]
    exact hX'
  rw [hc, he]
  refine List.ext_getElem? fun k => ?_
  by_cases hk : k < 16
  · rw [List.getElem?_set, Tabs_get _ _ _ hk, Tabs_get _ _ _ hk]
    unfold mixq
    by_cases e : i + 8 = k
    · subst e
      rw [if_pos rfl, if_pos (by rw [Tabs_length]; exact hi)]
    · rw [if_neg e]
      by_cases h2 : k < i + 8
      · rw [if_pos h2]
      · rw [if_neg h2, dw_of_lt' hX (by omega), dw_of_lt' hX' (by omega)]
  · rw [List.getElem?_eq_none (by rw [List.length_set, Tabs_length]; omega), List.getElem?_eq_none (by rw [Tabs_length]; omega)]

/-- The fold: 2^256 is 38. -/
def sF (T k : Nat) : Nat := T % 4294967296 ^ k + 38 * (T / 4294967296 ^ 8 % 4294967296 ^ k)
def cF (T k : Nat) : Nat := sF T k / 4294967296 ^ k
theorem dw_hi (T k : Nat) : dw (T / 4294967296 ^ 8) k = dw T (k + 8) := by
  unfold dw
  rw [Nat.div_div_eq_div_mul, ← Nat.pow_add, Nat.add_comm 8 k]
theorem sF_succ (T k : Nat) : sF T (k + 1) = sF T k + 4294967296 ^ k * (dw T k + 38 * dw T (k + 8)) := by
  unfold sF
  rw [mod_dw T, mod_dw (T / 4294967296 ^ 8), dw_hi, Nat.mul_add 38, Nat.mul_add (4294967296 ^ k), Nat.mul_left_comm 38]
  omega
theorem cF_zero (T : Nat) : cF T 0 = 0 := by
  unfold cF sF
  rw [Nat.pow_zero, Nat.mod_one, Nat.mod_one]
theorem cF_lt (T k : Nat) : cF T k < 39 := by
  unfold cF
  refine (Nat.div_lt_iff_lt_mul (pW _)).2 ?_
  unfold sF
  have h1 := Nat.mod_lt T (pW k)
  have h2 := Nat.mod_lt (T / 4294967296 ^ 8) (pW k)
  generalize 4294967296 ^ k = m at *
  omega
theorem cF_step (T k : Nat) : (cF T k + (dw T k + 38 * dw T (k + 8))) / 4294967296 = cF T (k + 1) := by
  unfold cF
  rw [sF_succ, st_over]
theorem tF_step (T : Nat) {k : Nat} (hk : k < 8) {v : Nat} (hv : v = (cF T k + (dw T k + 38 * dw T (k + 8))) % 4294967296) :
    (Tabs .u32 (mixq (sF T k) 0 k) 8).set k (.int .u32 ((v : Nat) : Int)) = Tabs .u32 (mixq (sF T (k + 1)) 0 (k + 1)) 8 := by
  rw [sF_succ]
  exact mx_step _ _ _ _ hk hv
theorem tF_zero (T : Nat) : Tabs .u32 (mixq (sF T 0) 0 0) 8 = Nw 0 := mixq_zero _ _ _
theorem tF_end (T : Nat) : Tabs .u32 (mixq (sF T 8) 0 8) 8 = Nw (sF T 8 % W8) := by
  rw [mixq_all]
  exact Tabs_congr _ fun k hk => (dw_mod _ hk).symm
theorem W8_38 : W8 = 38 + pp * 2 := by decide
theorem sF_pp {T : Nat} (hT : T < 4294967296 ^ 16) : (sF T 8 % W8 + W8 * cF T 8) % pp = T % pp := by
  have h1 : sF T 8 % W8 + W8 * cF T 8 = sF T 8 := Nat.mod_add_div _ _
  have h2 : T / 4294967296 ^ 8 < 4294967296 ^ 8 := by
    refine (Nat.div_lt_iff_lt_mul (pW _)).2 ?_
    rw [← Nat.pow_add]
    exact hT
  have h3 : T = T % 4294967296 ^ 8 + W8 * (T / 4294967296 ^ 8) := (Nat.mod_add_div _ _).symm
  rw [h1]
  unfold sF
  rw [Nat.mod_eq_of_lt h2]
  conv => rhs; rw [h3]
  rw [W8_38, Nat.add_mul, Nat.mul_assoc, ← Nat.add_assoc, Nat.add_mul_mod_self_left]

/-- What came out at the top comes back in at the bottom. -/
def sG (O v k : Nat) : Nat := 38 * v + O % 4294967296 ^ k
def cG (O v k : Nat) : Nat := sG O v k / 4294967296 ^ k
theorem sG_succ (O v k : Nat) : sG O v (k + 1) = sG O v k + 4294967296 ^ k * dw O k := by
  unfold sG
  rw [mod_dw, Nat.add_assoc]
theorem cG_zero (O v : Nat) : cG O v 0 = 38 * v := by
  unfold cG sG
  rw [Nat.pow_zero, Nat.mod_one, Nat.div_one, Nat.add_zero]
theorem cG_le (O k : Nat) {v : Nat} (hv : v < 39) : cG O v k < 2000 := by
  unfold cG
  refine (Nat.div_lt_iff_lt_mul (pW _)).2 ?_
  unfold sG
  have h1 := Nat.mod_lt O (pW k)
  have h2 := pW k
  generalize 4294967296 ^ k = m at *
  omega
theorem cG_step (O v k : Nat) : (cG O v k + dw O k) / 4294967296 = cG O v (k + 1) := by
  unfold cG
  rw [sG_succ, st_over]
theorem tG_step (O v : Nat) {k : Nat} (hk : k < 8) {d : Nat} (hd : d = (cG O v k + dw O k) % 4294967296) :
    (Tabs .u32 (mixq (sG O v k) O k) 8).set k (.int .u32 ((d : Nat) : Int)) = Tabs .u32 (mixq (sG O v (k + 1)) O (k + 1)) 8 := by
  rw [sG_succ]
  exact mx_step _ _ _ _ hk hd
theorem tG_zero (O v : Nat) : Tabs .u32 (mixq (sG O v 0) O 0) 8 = Nw O := mixq_zero _ _ _
theorem tG_end (O v : Nat) : Tabs .u32 (mixq (sG O v 8) O 8) 8 = Nw (sG O v 8 % W8) := by
  rw [mixq_all]
  exact Tabs_congr _ fun k hk => (dw_mod _ hk).symm
theorem sG_8 {O : Nat} (v : Nat) (hO : O < W8) : sG O v 8 = 38 * v + O := by
  unfold sG
  rw [Nat.mod_eq_of_lt (show O < 4294967296 ^ 8 from hO)]
theorem cG_all {O : Nat} (v : Nat) (hO : O < W8) : sG O v 8 % W8 + W8 * cG O v 8 = 38 * v + O := by
  rw [← sG_8 v hO]
  exact Nat.mod_add_div _ _
theorem G_pp (O v : Nat) : (38 * v + O) % pp = (O + W8 * v) % pp := by
  rw [W8_38, Nat.add_mul, Nat.mul_assoc, ← Nat.add_assoc, Nat.add_mul_mod_self_left, Nat.add_comm]
theorem cG_8 {O v : Nat} (hO : O < W8) (hv : v < 39) : cG O v 8 < 39 := by
  have h := cG_all v hO
  have hw : 2000 < W8 := by decide
  rcases Nat.lt_or_ge (cG O v 8) 39 with h1 | h1
  · exact h1
  · have := Nat.mul_le_mul_left W8 h1
    omega

end Go.Proofs.YthpbipebpaeagaaDoor
