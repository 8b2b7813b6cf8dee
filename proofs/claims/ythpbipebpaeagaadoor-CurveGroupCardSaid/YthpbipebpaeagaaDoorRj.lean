/- The document's product of numbers of eight digits: plain arithmetic. The document's Mul. -/
import Derived.Test.YthpbipebpaeagaaDoorRe
import Derived.Test.YthpbipebpaeagaaDoorCarry
namespace Go.Proofs.YthpbipebpaeagaaDoor
section
open Go.RowKit

theorem st_div (S z n : Nat) : (S + 4294967296 ^ n * z) / 4294967296 ^ n = S / 4294967296 ^ n + z := Nat.add_mul_div_left _ _ (pW n)
theorem st_low (S z : Nat) {k n : Nat} (hk : k < n) : dw (S + 4294967296 ^ n * z) k = dw S k := by
  unfold dw
  have e : (4294967296 : Nat) ^ n = 4294967296 ^ k * (4294967296 * 4294967296 ^ (n - k - 1)) := by
    rw [← Nat.pow_succ', ← Nat.pow_add]
    congr 1
    omega
  rw [e, Nat.mul_assoc, Nat.mul_assoc, Nat.add_mul_div_left _ _ (pW k), Nat.add_mul_mod_self_left]
theorem st_dig (S z n : Nat) : dw (S + 4294967296 ^ n * z) n = (S / 4294967296 ^ n + z) % 4294967296 := by
  unfold dw
  rw [st_div]
theorem st_over (S z n : Nat) : (S + 4294967296 ^ n * z) / 4294967296 ^ (n + 1) = (S / 4294967296 ^ n + z) / 4294967296 := by
  rw [Nat.pow_succ, ← Nat.div_div_eq_div_mul, st_div]
theorem mx_step (K : IntKind) (S X z : Nat) {n L : Nat} (hn : n < L) {v : Nat} (hv : v = (S / 4294967296 ^ n + z) % 4294967296) :
    (Tabs K (mixq S X n) L).set n (.int K ((v : Nat) : Int)) = Tabs K (mixq (S + 4294967296 ^ n * z) X (n + 1)) L := by
  refine List.ext_getElem? fun j => ?_
  by_cases hj : j < L
  · rw [List.getElem?_set, Tabs_get _ _ _ hj, Tabs_get _ _ _ hj]
    unfold mixq
    by_cases e : n = j
    · subst e
      rw [if_pos rfl, if_pos (by rw [Tabs_length]; exact hn), if_pos (by omega), st_dig, hv]
    · rw [if_neg e]
      by_cases h2 : j < n
      · rw [if_pos h2, if_pos (by omega), st_low _ _ h2]
      · rw [if_neg h2, if_neg (by omega)]
  · rw [List.getElem?_eq_none (by rw [List.length_set, Tabs_length]; omega), List.getElem?_eq_none (by rw [Tabs_length]; omega)]
theorem mx_at (K : IntKind) (S X : Nat) {n L : Nat} (hn : n < L) : (Tabs K (mixq S X n) L)[n]? = some (.int K ((dw X n : Nat) : Int)) := by
  rw [Tabs_get _ _ _ hn]
  unfold mixq
  rw [if_neg (by omega)]
theorem dw_mod (X : Nat) {k n : Nat} (hk : k < n) : dw (X % 4294967296 ^ n) k = dw X k := by
  have h := st_low (X % 4294967296 ^ n) (X / 4294967296 ^ n) hk
  rw [Nat.mod_add_div] at h
  exact h.symm

/-- What lies in the digits of a product after so many rounds, and what is carried. -/
def sI (A B i j : Nat) : Nat := A % 4294967296 ^ i * B % 4294967296 ^ (i + j) + 4294967296 ^ i * (dw A i * (B % 4294967296 ^ j))
def cI (A B i j : Nat) : Nat := sI A B i j / 4294967296 ^ (i + j)
theorem sI_succ (A B i j : Nat) : sI A B i (j + 1) = sI A B i j + 4294967296 ^ (i + j) * (dw (A % 4294967296 ^ i * B) (i + j) + dw A i * dw B j) := by
  unfold sI
  rw [show i + (j + 1) = i + j + 1 from rfl, mod_dw, mod_dw B j]
  generalize A % 4294967296 ^ i * B = X
  generalize dw A i = a
  generalize dw B j = b
  generalize B % 4294967296 ^ j = r
  rw [Nat.mul_add a, Nat.mul_add (4294967296 ^ i), Nat.mul_add (4294967296 ^ (i + j))]
  have e : 4294967296 ^ i * (a * (4294967296 ^ j * b)) = 4294967296 ^ (i + j) * (a * b) := by
    rw [Nat.pow_add, Nat.mul_left_comm a, Nat.mul_assoc (4294967296 ^ i)]
  rw [e]
  omega
theorem cI_zero (A B i : Nat) : cI A B i 0 = 0 := by
  unfold cI sI
  rw [Nat.pow_zero, Nat.mod_one, Nat.mul_zero, Nat.mul_zero, Nat.add_zero, Nat.add_zero]
  exact Nat.div_eq_of_lt (Nat.mod_lt _ (pW i))
theorem cI_lt (A B i j : Nat) : cI A B i j < 4294967296 := by
  unfold cI
  refine (Nat.div_lt_iff_lt_mul (pW _)).2 ?_
  unfold sI
  have h1 := Nat.mod_lt (A % 4294967296 ^ i * B) (pW (i + j))
  have h2 : dw A i * (B % 4294967296 ^ j) ≤ 4294967295 * 4294967296 ^ j := Nat.mul_le_mul (by have := dw_lt A i; omega) (Nat.le_of_lt (Nat.mod_lt _ (pW j)))
  have h3 := Nat.mul_le_mul_left (4294967296 ^ i) h2
  have e : 4294967296 ^ i * (4294967295 * 4294967296 ^ j) = 4294967295 * 4294967296 ^ (i + j) := by rw [Nat.mul_left_comm, ← Nat.pow_add]
  rw [e] at h3
  generalize 4294967296 ^ (i + j) = m at *
  omega
/-- One digit more. -/
theorem cI_step (A B i j : Nat) : (cI A B i j + (dw (A % 4294967296 ^ i * B) (i + j) + dw A i * dw B j)) / 4294967296 = cI A B i (j + 1) := by
  unfold cI
  rw [sI_succ, show i + (j + 1) = i + j + 1 from rfl, st_over]
theorem tI_zero (A B i L : Nat) : Tabs .u64 (mixq (sI A B i 0) (A % 4294967296 ^ i * B) (i + 0)) L = Tabs .u64 (dw (A % 4294967296 ^ i * B)) L := Tabs_congr _ fun k _ => by
  unfold mixq
  split
  · unfold sI
    rw [Nat.pow_zero, Nat.mod_one, Nat.mul_zero, Nat.mul_zero, Nat.add_zero, dw_mod _ (by assumption)]
  · rfl
theorem tI_step (A B i j : Nat) (h : i + j < 16) {v : Nat} (hv : v = (cI A B i j + (dw (A % 4294967296 ^ i * B) (i + j) + dw A i * dw B j)) % 4294967296) :
    (Tabs .u64 (mixq (sI A B i j) (A % 4294967296 ^ i * B) (i + j)) 16).set (i + j) (.int .u64 ((v : Nat) : Int)) = Tabs .u64 (mixq (sI A B i (j + 1)) (A % 4294967296 ^ i * B) (i + (j + 1))) 16 := by
  rw [sI_succ]
  exact mx_step _ _ _ _ h hv
theorem X_lt (A i : Nat) {B : Nat} (hB : B < W8) : A % 4294967296 ^ i * B < 4294967296 ^ (i + 8) := by
  rw [Nat.pow_add]
  exact Nat.mul_lt_mul'' (Nat.mod_lt _ (pW i)) hB
theorem sI_end (A i : Nat) {B : Nat} (hB : B < W8) : sI A B i 8 = A % 4294967296 ^ (i + 1) * B := by
  unfold sI
  rw [Nat.mod_eq_of_lt (X_lt A i hB), Nat.mod_eq_of_lt (show B < 4294967296 ^ 8 from hB), mod_dw, Nat.add_mul, Nat.mul_assoc]
theorem tI_end (A i : Nat) {B : Nat} (hB : B < W8) (hi : i + 8 < 16) : (Tabs .u64 (mixq (sI A B i 8) (A % 4294967296 ^ i * B) (i + 8)) 16).set (i + 8) (.int .u64 ((cI A B i 8 : Nat) : Int)) = Tabs .u64 (dw (A % 4294967296 ^ (i + 1) * B)) 16 := by
  have hX := X_lt A i hB
  have hX' := X_lt A (i + 1) hB
  have he := sI_end A i hB
  have hc : cI A B i 8 = dw (A % 4294967296 ^ (i + 1) * B) (i + 8) := by
    unfold cI dw
    rw [he]
    refine (Nat.mod_eq_of_lt ((Nat.div_lt_iff_lt_mul (pW _)).2 ?_)).symm
    rw [← Nat.pow_succ']
    rw [show (i + 8).succ = i + 1 + 8 by omega]
    exact hX'
  rw [hc, he]
  refine List.ext_getElem? fun k => ?_
  by_cases hk : k < 16
  · rw [List.getElem?_set, Tabs_get _ _ _ hk, Tabs_get _ _ _ hk]
    unfold mixq
    by_cases e : i + 8 = k
    · subst e
      rw [if_pos rfl, if_pos (by rw [Tabs_length]; exact hi)]
    · rw [if_neg e]
      by_cases h2 : k < i + 8
      · rw [if_pos h2]
      · rw [if_neg h2, dw_of_lt' hX (by omega), dw_of_lt' hX' (by omega)]
  · rw [List.getElem?_eq_none (by rw [List.length_set, Tabs_length]; omega), List.getElem?_eq_none (by rw [Tabs_length]; omega)]

/-- The fold: 2^256 is 38. -/
def sF (T k : Nat) : Nat := T % 4294967296 ^ k + 38 * (T / 4294967296 ^ 8 % 4294967296 ^ k)
def cF (T k : Nat) : Nat := sF T k / 4294967296 ^ k
theorem dw_hi (T k : Nat) : dw (T / 4294967296 ^ 8) k = dw T (k + 8) := by
  unfold dw
  rw [Nat.div_div_eq_div_mul, ← Nat.pow_add, Nat.add_comm 8 k]
theorem sF_succ (T k : Nat) : sF T (k + 1) = sF T k + 4294967296 ^ k * (dw T k + 38 * dw T (k + 8)) := by
  unfold sF
  rw [mod_dw T, mod_dw (T / 4294967296 ^ 8), dw_hi, Nat.mul_add 38, Nat.mul_add (4294967296 ^ k), Nat.mul_left_comm 38]
  omega
theorem cF_zero (T : Nat) : cF T 0 = 0 := by
  unfold cF sF
  rw [Nat.pow_zero, Nat.mod_one, Nat.mod_one]
theorem cF_lt (T k : Nat) : cF T k < 39 := by
  unfold cF
  refine (Nat.div_lt_iff_lt_mul (pW _)).2 ?_
  unfold sF
  have h1 := Nat.mod_lt T (pW k)
  have h2 := Nat.mod_lt (T / 4294967296 ^ 8) (pW k)
  generalize 4294967296 ^ k = m at *
  omega
theorem cF_step (T k : Nat) : (cF T k + (dw T k + 38 * dw T (k + 8))) / 4294967296 = cF T (k + 1) := by
  unfold cF
  rw [sF_succ, st_over]
theorem tF_step (T : Nat) {k : Nat} (hk : k < 8) {v : Nat} (hv : v = (cF T k + (dw T k + 38 * dw T (k + 8))) % 4294967296) :
    (Tabs .u32 (mixq (sF T k) 0 k) 8).set k (.int .u32 ((v : Nat) : Int)) = Tabs .u32 (mixq (sF T (k + 1)) 0 (k + 1)) 8 := by
  rw [sF_succ]
  exact mx_step _ _ _ _ hk hv
theorem tF_zero (T : Nat) : Tabs .u32 (mixq (sF T 0) 0 0) 8 = Nw 0 := mixq_zero _ _ _
theorem tF_end (T : Nat) : Tabs .u32 (mixq (sF T 8) 0 8) 8 = Nw (sF T 8 % W8) := by
  rw [mixq_all]
  exact Tabs_congr _ fun k hk => (dw_mod _ hk).symm
theorem W8_38 : W8 = 38 + pp * 2 := by decide
theorem sF_pp {T : Nat} (hT : T < 4294967296 ^ 16) : (sF T 8 % W8 + W8 * cF T 8) % pp = T % pp := by
  have h1 : sF T 8 % W8 + W8 * cF T 8 = sF T 8 := Nat.mod_add_div _ _
  have h2 : T / 4294967296 ^ 8 < 4294967296 ^ 8 := by
    refine (Nat.div_lt_iff_lt_mul (pW _)).2 ?_
    rw [← Nat.pow_add]
    exact hT
  have h3 : T = T % 4294967296 ^ 8 + W8 * (T / 4294967296 ^ 8) := (Nat.mod_add_div _ _).symm
  rw [h1]
  unfold sF
  rw [Nat.mod_eq_of_lt h2]
  conv => rhs; rw [h3]
  rw [W8_38, Nat.add_mul, Nat.mul_assoc, ← Nat.add_assoc, Nat.add_mul_mod_self_left]

/-- What came out at the top comes back in at the bottom. -/
def sG (O v k : Nat) : Nat := 38 * v + O % 4294967296 ^ k
def cG (O v k : Nat) : Nat := sG O v k / 4294967296 ^ k
theorem sG_succ (O v k : Nat) : sG O v (k + 1) = sG O v k + 4294967296 ^ k * dw O k := by
  unfold sG
  rw [mod_dw, Nat.add_assoc]
theorem cG_zero (O v : Nat) : cG O v 0 = 38 * v := by
  unfold cG sG
  rw [Nat.pow_zero, Nat.mod_one, Nat.div_one, Nat.add_zero]
theorem cG_le (O k : Nat) {v : Nat} (hv : v < 39) : cG O v k < 2000 := by
  unfold cG
  refine (Nat.div_lt_iff_lt_mul (pW _)).2 ?_
  unfold sG
  have h1 := Nat.mod_lt O (pW k)
  have h2 := pW k
  generalize 4294967296 ^ k = m at *
  omega
theorem cG_step (O v k : Nat) : (cG O v k + dw O k) / 4294967296 = cG O v (k + 1) := by
  unfold cG
  rw [sG_succ, st_over]
theorem tG_step (O v : Nat) {k : Nat} (hk : k < 8) {d : Nat} (hd : d = (cG O v k + dw O k) % 4294967296) :
    (Tabs .u32 (mixq (sG O v k) O k) 8).set k (.int .u32 ((d : Nat) : Int)) = Tabs .u32 (mixq (sG O v (k + 1)) O (k + 1)) 8 := by
  rw [sG_succ]
  exact mx_step _ _ _ _ hk hd
theorem tG_zero (O v : Nat) : Tabs .u32 (mixq (sG O v 0) O 0) 8 = Nw O := mixq_zero _ _ _
theorem tG_end (O v : Nat) : Tabs .u32 (mixq (sG O v 8) O 8) 8 = Nw (sG O v 8 % W8) := by
  rw [mixq_all]
  exact Tabs_congr _ fun k hk => (dw_mod _ hk).symm
theorem sG_8 {O : Nat} (v : Nat) (hO : O < W8) : sG O v 8 = 38 * v + O := by
  unfold sG
  rw [Nat.mod_eq_of_lt (show O < 4294967296 ^ 8 from hO)]
theorem cG_all {O : Nat} (v : Nat) (hO : O < W8) : sG O v 8 % W8 + W8 * cG O v 8 = 38 * v + O := by
  rw [← sG_8 v hO]
  exact Nat.mod_add_div _ _
theorem G_pp (O v : Nat) : (38 * v + O) % pp = (O + W8 * v) % pp := by
  rw [W8_38, Nat.add_mul, Nat.mul_assoc, ← Nat.add_assoc, Nat.add_mul_mod_self_left, Nat.add_comm]
theorem cG_8 {O v : Nat} (hO : O < W8) (hv : v < 39) : cG O v 8 < 39 := by
  have h := cG_all v hO
  have hw : 2000 < W8 := by decide
  rcases Nat.lt_or_ge (cG O v 8) 39 with h1 | h1
  · exact h1
  · have := Nat.mul_le_mul_left W8 h1
    omega
end

section
set_option maxRecDepth 100000
set_option linter.unusedSimpArgs false
open Go.RowKit

theorem u64_low (D : Nat) (h : D < 18446744073709551616) : bits .and .u64 (D : Int) 4294967295 = ((D % 4294967296 : Nat) : Int) := by
  have h1 := bits_mask .u64 64 (by decide) w64 32 (by decide) (D : Int) (by omega) (by omega)
  have h2 : ((D % 4294967296 : Nat) : Int) = (D : Int) % 2 ^ 32 := by omega
  rw [h2]
  exact h1
theorem prod_le {a b : Nat} (ha : a < 4294967296) (hb : b < 4294967296) : a * b ≤ 18446744065119617025 := Nat.mul_le_mul (show a ≤ 4294967295 by omega) (show b ≤ 4294967295 by omega)
/-- One step of the inner loop. -/
theorem inn_step (A B k j : Nat) : ∃ x y z c pr v d : Nat, x = dw A k ∧ z = dw B j ∧ y = dw (A % 4294967296 ^ k * B) (k + j) ∧ c = cI A B k j ∧ pr = x * z ∧ v = (c + (y + pr)) % 4294967296 ∧ d = (c + (y + pr)) / 4294967296 ∧ d = cI A B k (j + 1) ∧ x < 4294967296 ∧ z < 4294967296 ∧ y < 4294967296 ∧ c < 4294967296 ∧ pr ≤ 18446744065119617025 :=
  ⟨_, _, _, _, _, _, _, rfl, rfl, rfl, rfl, rfl, rfl, rfl, cI_step A B k j, dw_lt _ _, dw_lt _ _, dw_lt _ _, cI_lt _ _ _ _, prod_le (dw_lt _ _) (dw_lt _ _)⟩

/-- One step of the fold, and of what comes after it. -/
theorem fld_step (T k : Nat) : ∃ l h c v d : Nat, l = dw T k ∧ h = dw T (k + 8) ∧ c = cF T k ∧ v = (c + (l + 38 * h)) % 4294967296 ∧ d = (c + (l + 38 * h)) / 4294967296 ∧ d = cF T (k + 1) ∧ l < 4294967296 ∧ h < 4294967296 ∧ c < 39 :=
  ⟨_, _, _, _, _, rfl, rfl, rfl, rfl, rfl, cF_step T k, dw_lt _ _, dw_lt _ _, cF_lt _ _⟩
theorem low_step (O k : Nat) {u : Nat} (hu : u < 39) : ∃ l c v d : Nat, l = dw O k ∧ c = cG O u k ∧ v = (c + l) % 4294967296 ∧ d = (c + l) / 4294967296 ∧ d = cG O u (k + 1) ∧ l < 4294967296 ∧ c < 2000 :=
  ⟨_, _, _, _, rfl, rfl, rfl, rfl, cG_step O u k, dw_lt _ _, cG_le O k hu⟩

set_option maxHeartbeats 6400000 in
theorem mulr_ref (A B : Nat) (hA : A < W8) (hB : B < W8) (w : World) :
    Calls Tryd.prog 32 #[.agg (Nw A).toArray, .agg (Nw B).toArray] w fun e w' => e = .returned (.agg (Nw (A * B % pp)).toArray) ∧ Below w.heap.size w w' := by
  have HB := Lib.hid hB
  have HA := Lib.hid hA
  have HS4 := Lib.hid nw_info
  clear hA hB
  go_enter Tryd.func32, Tryd.ntmps32
  go_wp2_with fail
  go_loopw [6] (fun i wr => ∃ k : Nat, k ≤ 8 ∧ i = .int .i64 k ∧ Row wr w.heap.size 30 (Nw A) ∧ Row wr (w.heap.size + 1) 30 (Nw B) ∧ Row wr (w.heap.size + 1 + 1) 30 (Nw 0) ∧ Row wr (w.heap.size + 1 + 1 + 1) 87 (Tabs .u64 (dw (A % 4294967296 ^ k * B)) 16) ∧ Below w.heap.size w wr) (fun i _ => 8 - (intOf i).toNat)
  case atStart =>
    refine ⟨0, Nat.zero_le _, rfl, (((Row.new w _ _).alloc _).alloc _).alloc _, ((Row.new1 w _ _ _).alloc _).alloc _, ?_, ?_, Below.alloc4 _ _ _ _ _⟩
    · rw [Nw_zero]
      exact (Row.new2 w _ _ _ _).alloc _
    · have e : Tabs .u64 (dw (A % 4294967296 ^ 0 * B)) 16 = List.replicate 16 (.int .u64 0) := by
        rw [Nat.pow_zero, Nat.mod_one, Nat.zero_mul]
        exact (Tabs_congr _ fun i _ => dw_zero i).trans (Tab_zero .u64 (fun _ => 0) 16 ▸ (Tab_done .u64 (fun _ => 0) 16 ▸ rfl))
      rw [e]
      exact Row.new3 w _ _ _ (List.replicate 16 (.int .u64 0)) _
  case round =>
    obtain ⟨k, hkn, rfl, ha, hb, hz, ht, hbe⟩ := hrel
    by_cases hk : k < 8
    · have bk0 : (0 : Int) ≤ (k : Int) := by omega
      have bk1 : (k : Int) < 8 := by omega
      have HRA := Lib.hid ha
      have HRB := Lib.hid hb
      have HRZ := Lib.hid hz
      have HRT := Lib.hid ht
      have HBE := Lib.hid hbe
      clear ha hb hz ht hbe
      go_wp2_with fail
      obtain ⟨wo, rfl⟩ : ∃ wo, wo = wr := ⟨_, rfl⟩
      go_loopw [7, 8] (fun o i wr => ∃ j : Nat, j ≤ 8 ∧ i = .int .i64 j ∧ o = .int .u64 ((cI A B k j : Nat) : Int) ∧ Row wr w.heap.size 30 (Nw A) ∧ Row wr (w.heap.size + 1) 30 (Nw B) ∧ Row wr (w.heap.size + 1 + 1) 30 (Nw 0) ∧ Row wr (w.heap.size + 1 + 1 + 1) 87 (Tabs .u64 (mixq (sI A B k j) (A % 4294967296 ^ k * B) (k + j)) 16) ∧ Below w.heap.size w wr) (fun _ i _ => 8 - (intOf i).toNat)
      case atStart => exact ⟨0, Nat.zero_le _, rfl, by rw [cI_zero]; rfl, HRA.out, HRB.out, HRZ.out, by rw [tI_zero]; exact HRT.out, HBE.out⟩
      case round =>
        obtain ⟨j, hj8, rfl, rfl, ha, hb, hz, ht, hbe⟩ := hrel
        by_cases hj : j < 8
        · have hca := ha.cell (Nw_get A hk)
          have hcb := hb.cell (Nw_get B hj)
          have hct := ht.cell (mx_at .u64 (sI A B k j) (A % 4294967296 ^ k * B) (n := k + j) (L := 16) (by omega))
          have hfree := ht.free (k + j)
          obtain ⟨x, y, z, c, pr, v, d, hx, hzz, hy, hc, hpr, hv, hd, hdn, lx, lz, ly, lc, lp⟩ := inn_step A B k j
          have hset := ht.set (k + j) (.int .u64 ((v : Nat) : Int))
          rw [tI_step A B k j (by omega) (hv.trans (by rw [hc, hy, hpr, hx, hzz]))] at hset
          have hne : ∀ g, g < w.heap.size + 1 + 1 + 1 → g ≠ (⟨w.heap.size + 1 + 1 + 1, k + j, none⟩ : Addr).block := fun g h => by show g ≠ w.heap.size + 1 + 1 + 1; omega
          have ha2 := ha.setCell (hne _ (by omega)) (.int .u64 ((v : Nat) : Int))
          have hb2 := hb.setCell (hne _ (by omega)) (.int .u64 ((v : Nat) : Int))
          have hz2 := hz.setCell (hne _ (by omega)) (.int .u64 ((v : Nat) : Int))
          have hbe2 := hbe.setCell (p := ⟨w.heap.size + 1 + 1 + 1, k + j, none⟩) (by simp; omega) (.int .u64 ((v : Nat) : Int))
          rw [← hx] at hca
          rw [← hzz] at hcb
          rw [← hy] at hct
          rw [← hc]
          have hmul : IntKind.u64.wrap ((x : Int) * (z : Int)) = ((pr : Nat) : Int) := by
            have e : (x : Int) * (z : Int) = ((pr : Nat) : Int) := by rw [hpr]; simp
            rw [e, IntKind.wrap_u64]
            omega
          have w1 : IntKind.i64.wrap ((k : Int) + (j : Int)) = (k : Int) + (j : Int) := IntWalk.i64_in _ (by omega)
          have w4 : (0 : Int) ≤ (k : Int) + (j : Int) := by omega
          have w5 : ((k : Int) + (j : Int)).toNat = k + j := by omega
          have w6 : (k : Int) + (j : Int) < 16 := by omega
          have w2 : IntKind.u64.wrap ((y : Int) + (pr : Int)) = (y : Int) + (pr : Int) := by rw [IntKind.wrap_u64]; omega
          have w3 : IntKind.u64.wrap ((y : Int) + (pr : Int) + (c : Int)) = (y : Int) + (pr : Int) + (c : Int) := by rw [IntKind.wrap_u64]; omega
          have bj0 : (0 : Int) ≤ (j : Int) := by omega
          have bj1 : (j : Int) < 8 := by omega
          have HSET := Lib.hid hset
          have HA2 := Lib.hid ha2
          have HB2 := Lib.hid hb2
          have HZ2 := Lib.hid hz2
          have HBE2 := Lib.hid hbe2
          have HV := Lib.hid hv
          have HD := Lib.hid hd
          have HDN := Lib.hid hdn
          clear ha hb hz ht hbe hset ha2 hb2 hz2 hbe2 hx hzz hy hc hpr hv hd hdn hne
          go_wp2_with fail
          go_region
          have hsum : (y : Int) + (pr : Int) + (c : Int) = ((c + (y + pr) : Nat) : Int) := by omega
          rw [hsum]
          have hD : c + (y + pr) < 18446744073709551616 := by omega
          have hlo := u64_low _ hD
          have hv' := HV.out
          have hd' := HD.out
          generalize c + (y + pr) = D at *
          rw [← hv'] at hlo
          have hhi : ((D : Nat) : Int) / 4294967296 = ((d : Nat) : Int) := by omega
          clear hsum hv' hd' hmul w2 w3
          have HLO := Lib.hid hlo
          have HHI := Lib.hid hhi
          clear hlo hhi
          go_wp2_with fail
          rw [HLO.out, HHI.out]
          go_roundw
          case rel => exact ⟨j + 1, by omega, by go_num, by rw [← HDN.out], HA2.out, HB2.out, HZ2.out, HSET.out, HBE2.out.drew⟩
          case measure => simp [intOf] <;> omega
        · obtain rfl : j = 8 := by omega
          have hct := ht.cell (Tabs_get .u64 (mixq (sI A B k 8) (A % 4294967296 ^ k * B) (k + 8)) 16 (j := k + 8) (by omega))
          have hfree := ht.free (k + 8)
          have hset := ht.set (k + 8) (.int .u64 ((cI A B k 8 : Nat) : Int))
          rw [tI_end A k HB.out (by omega)] at hset
          have hne : ∀ g, g < w.heap.size + 1 + 1 + 1 → g ≠ (⟨w.heap.size + 1 + 1 + 1, k + 8, none⟩ : Addr).block := fun g h => by show g ≠ w.heap.size + 1 + 1 + 1; omega
          have ha2 := ha.setCell (hne _ (by omega)) (.int .u64 ((cI A B k 8 : Nat) : Int))
          have hb2 := hb.setCell (hne _ (by omega)) (.int .u64 ((cI A B k 8 : Nat) : Int))
          have hz2 := hz.setCell (hne _ (by omega)) (.int .u64 ((cI A B k 8 : Nat) : Int))
          have hbe2 := hbe.setCell (p := ⟨w.heap.size + 1 + 1 + 1, k + 8, none⟩) (by simp; omega) (.int .u64 ((cI A B k 8 : Nat) : Int))
          have w1 : IntKind.i64.wrap ((k : Int) + 8) = (k : Int) + 8 := IntWalk.i64_in _ (by omega)
          have w4 : (0 : Int) ≤ (k : Int) + 8 := by omega
          have w5 : ((k : Int) + 8).toNat = k + 8 := by omega
          have w6 : (k : Int) + 8 < 16 := by omega
          generalize cI A B k 8 = c at *
          have HSET := Lib.hid hset
          have HA2 := Lib.hid ha2
          have HB2 := Lib.hid hb2
          have HZ2 := Lib.hid hz2
          have HBE2 := Lib.hid hbe2
          clear ha hb hz ht hbe hset ha2 hb2 hz2 hbe2 hne
          go_wp2_with fail
          go_roundw
          case rel => exact ⟨k + 1, by omega, by go_num, HA2.out, HB2.out, HZ2.out, HSET.out, HBE2.out⟩
          case measure => simp [intOf] <;> omega
    · obtain rfl : k = 8 := by omega
      rw [Nat.mod_eq_of_lt (show A < 4294967296 ^ 8 from HA.out)] at ht
      have hT : A * B < 4294967296 ^ 16 := by
        rw [show (4294967296 : Nat) ^ 16 = 4294967296 ^ 8 * 4294967296 ^ 8 from by rw [← Nat.pow_add]]
        exact Nat.mul_lt_mul'' HA.out HB.out
      obtain ⟨T, hTe⟩ : ∃ T, T = A * B := ⟨_, rfl⟩
      rw [← hTe] at ht hT
      have HTE := Lib.hid hTe
      clear hTe
      have HRZ := Lib.hid hz
      have HRT := Lib.hid ht
      have HBE := Lib.hid hbe
      have HT16 := Lib.hid hT
      clear ha hb hz ht hbe hT
      go_wp2_with fail
      obtain ⟨wo, rfl⟩ : ∃ wo, wo = wr := ⟨_, rfl⟩
      go_loopw [11, 12] (fun o i wr => ∃ k : Nat, k ≤ 8 ∧ i = .int .i64 k ∧ o = .int .u64 ((cF T k : Nat) : Int) ∧ Row wr (w.heap.size + 1 + 1) 30 (Nw 0) ∧ Row wr (w.heap.size + 1 + 1 + 1) 87 (Tabs .u64 (dw T) 16) ∧ Row wr wo.heap.size 30 (Tabs .u32 (mixq (sF T k) 0 k) 8) ∧ Below w.heap.size w wr) (fun _ i _ => 8 - (intOf i).toNat)
      case atStart =>
        refine ⟨0, Nat.zero_le _, rfl, by rw [cF_zero]; rfl, HRZ.out.alloc _, HRT.out.alloc _, ?_, HBE.out.alloc HBE.out.size _⟩
        rw [tF_zero]
        exact nw_zero_row wo
      case round =>
        obtain ⟨k, hk8, rfl, rfl, hz, ht, hrow, hbe⟩ := hrel
        have hlt3 := HRT.out.lt
        have hsz := HBE.out.size
        by_cases hk : k < 8
        · have hcl := ht.cell (Tabs_get .u64 (dw T) 16 (j := k) (by omega))
          have hch := ht.cell (Tabs_get .u64 (dw T) 16 (j := k + 8) (by omega))
          have hco := hrow.cell (mx_at .u32 (sF T k) 0 hk)
          have hfree := hrow.free k
          obtain ⟨l, h, c, v, d, hl, hh, hc, hv, hd, hdn, ll, lh, lc⟩ := fld_step T k
          have hset := hrow.set k (.int .u32 ((v : Nat) : Int))
          rw [tF_step T hk (hv.trans (by rw [hc, hl, hh]))] at hset
          have hne : ∀ g, g < wo.heap.size → g ≠ (⟨wo.heap.size, k, none⟩ : Addr).block := fun g h => by show g ≠ wo.heap.size; omega
          have hz2 := hz.setCell (hne _ (by omega)) (.int .u32 ((v : Nat) : Int))
          have ht2 := ht.setCell (hne _ (by omega)) (.int .u32 ((v : Nat) : Int))
          have hbe2 := hbe.setCell (p := ⟨wo.heap.size, k, none⟩) (by simp; omega) (.int .u32 ((v : Nat) : Int))
          rw [← hl] at hcl
          rw [← hh] at hch
          rw [← hc]
          have w1 : IntKind.i64.wrap ((k : Int) + 8) = (k : Int) + 8 := IntWalk.i64_in _ (by omega)
          have w4 : (0 : Int) ≤ (k : Int) + 8 := by omega
          have w5 : ((k : Int) + 8).toNat = k + 8 := by omega
          have w6 : (k : Int) + 8 < 16 := by omega
          have bk0 : (0 : Int) ≤ (k : Int) := by omega
          have bk1 : (k : Int) < 8 := by omega
          have HSET := Lib.hid hset
          have HZ2 := Lib.hid hz2
          have HT2 := Lib.hid ht2
          have HBE2 := Lib.hid hbe2
          have HV := Lib.hid hv
          have HD := Lib.hid hd
          have HDN := Lib.hid hdn
          have HCO := Lib.hid hco
          clear hz ht hrow hbe hset hz2 ht2 hbe2 hl hh hc hv hd hdn hne hlt3 hsz
          go_wp2_with fail
          go_region
          have hsum : (l : Int) + 38 * (h : Int) + (c : Int) = ((c + (l + 38 * h) : Nat) : Int) := by omega
          rw [hsum]
          have hD : c + (l + 38 * h) < 18446744073709551616 := by omega
          have hv' := HV.out
          have hd' := HD.out
          generalize c + (l + 38 * h) = D at *
          have hlo : ((D : Nat) : Int) % 4294967296 = ((v : Nat) : Int) := by omega
          have hhi : ((D : Nat) : Int) / 4294967296 = ((d : Nat) : Int) := by omega
          clear hsum hv' hd'
          have HLO := Lib.hid hlo
          have HHI := Lib.hid hhi
          clear hlo hhi
          have hco := HCO.out
          go_wp2_with fail
          rw [HLO.out, HHI.out]
          go_roundw
          case rel => exact ⟨k + 1, by omega, by go_num, by rw [← HDN.out], HZ2.out, HT2.out, HSET.out, HBE2.out.drew⟩
          case measure => simp [intOf] <;> omega
        · obtain rfl : k = 8 := by omega
          rw [tF_end] at hrow
          have hpp := sF_pp HT16.out
          have hO : sF T 8 % W8 < W8 := Nat.mod_lt _ W8_pos
          have hv9 := cF_lt T 8
          generalize sF T 8 % W8 = O0 at *
          generalize cF T 8 = v0 at *
          have HRZ1 := Lib.hid hz
          have HROW1 := Lib.hid hrow
          have HBE1 := Lib.hid hbe
          have HPP := Lib.hid hpp
          have HO0 := Lib.hid hO
          have HV9 := Lib.hid hv9
          have HGE := Lib.hid (show w.heap.size + 1 + 1 < wo.heap.size by omega)
          clear hz ht hrow hbe hpp hO hv9 HBE HRZ HRT HT16 hlt3 hsz
          go_wp2_with fail
          obtain ⟨wq, rfl⟩ : ∃ wq, wq = wr := ⟨_, rfl⟩
          go_loopw [11] (fun o wr => ∃ O v : Nat, O < W8 ∧ v < 39 ∧ o = .int .u64 ((v : Nat) : Int) ∧ (O + W8 * v) % pp = T % pp ∧ Row wr (w.heap.size + 1 + 1) 30 (Nw 0) ∧ Row wr wo.heap.size 30 (Nw O) ∧ Below w.heap.size w wr) (fun o wr => rdN wr wo.heap.size + W8 * (intOf o).toNat)
          case atStart => exact ⟨O0, v0, HO0.out, HV9.out, rfl, HPP.out, HRZ1.out, HROW1.out, HBE1.out⟩
          case round =>
            obtain ⟨O, v, hO, hv9, rfl, hpp, hz, hrow, hbe⟩ := hrel
            by_cases hv0 : v = 0
            · subst hv0
              rw [Nat.mul_zero, Nat.add_zero] at hpp
              have hdown := fun wx => down_ref O hO wx
              rw [hpp] at hdown
              have HDOWN := Lib.hid hdown
              have HRZ := Lib.hid hz
              have HROW := Lib.hid hrow
              have HBE := Lib.hid hbe
              clear hz hrow hbe hpp hdown hO HPP HO0 HRZ1 HROW1 HBE1
              go_wp2_with (refine wpList_load_row rfl 30 (.tmp 10) rfl wo.heap.size rfl 30 _ (0, 0) _ HROW.out Tryd.underlying30 rfl (HS4.out _) ?_)
              refine (HDOWN.out _).mono ?_
              rintro e w2 ⟨rfl, hb2⟩
              have hz2 := HRZ.out.belowAll hb2
              have hw2 := HBE.out.trans (hb2.mono HBE.out.size)
              have HW2 := Lib.hid hw2
              clear hb2 hw2
              go_wp2_with (refine wpList_store_row rfl 30 (.tmp 4) (.tmp 96) rfl (w.heap.size + 1 + 1) _ rfl rfl 30 _ hz2 (HS4.out _) (Nw_sz _ _) (Nw_one _) ?_)
              have hgot := setRow_heap w2 (w.heap.size + 1 + 1) _ (Nw (T % pp)).toArray _ _ hz2
              refine bodyPost_ret (results_cell_row (by rfl) _ _ (w.heap.size + 1 + 1) _ _ _ _ (by rfl) hgot Tryd.underlying30 rfl (HS4.out _)) rfl ?_
              exact ⟨by rw [HTE.out], below_setRow HW2.out (by omega) _⟩
            · have hvp : 0 < v := by omega
              have hrd := rdN_row hrow hO
              have HRD := Lib.hid hrd
              have HRZ := Lib.hid hz
              have HROW := Lib.hid hrow
              have HBE := Lib.hid hbe
              have HOO := Lib.hid hO
              have HPV := Lib.hid hpp
              have b38 : (38 : Int) * (v : Int) = ((cG O v 0 : Nat) : Int) := by rw [cG_zero]; omega
              have HB38 := Lib.hid b38
              have w38 : (0 : Int) ≤ 38 * (v : Int) := by omega
              have w39 : 38 * (v : Int) < 18446744073709551616 := by omega
              clear hz hrow hbe hpp hO hrd b38 HPP HO0 HRZ1 HROW1 HBE1
              go_wp2_with fail
              obtain ⟨wp, rfl⟩ : ∃ wp, wp = wr := ⟨_, rfl⟩
              go_loopw [14, 15] (fun x i wr => ∃ k : Nat, k ≤ 8 ∧ i = .int .i64 k ∧ x = .int .u64 ((cG O v k : Nat) : Int) ∧ Row wr (w.heap.size + 1 + 1) 30 (Nw 0) ∧ Row wr wo.heap.size 30 (Tabs .u32 (mixq (sG O v k) O k) 8) ∧ Below w.heap.size w wr) (fun _ i _ => 8 - (intOf i).toNat)
              case atStart => exact ⟨0, Nat.zero_le _, rfl, by rw [← HB38.out], HRZ.out, by rw [tG_zero]; exact HROW.out, HBE.out⟩
              case round =>
                obtain ⟨k, hk8, rfl, rfl, hz, hrow, hbe⟩ := hrel
                have hsz := HBE.out.size
                have hlz := HRZ.out.lt
                by_cases hk : k < 8
                · have hco := hrow.cell (mx_at .u32 (sG O v k) O hk)
                  have hfree := hrow.free k
                  obtain ⟨l, c, u, d, hl, hc, hu, hd, hdn, ll, lc⟩ := low_step O k hv9
                  have hset := hrow.set k (.int .u32 ((u : Nat) : Int))
                  rw [tG_step O v hk (hu.trans (by rw [hc, hl]))] at hset
                  have hz2 := hz.setCell (p := ⟨wo.heap.size, k, none⟩) (by show w.heap.size + 1 + 1 ≠ wo.heap.size; have := HGE.out; omega) (.int .u32 ((u : Nat) : Int))
                  have hbe2 := hbe.setCell (p := ⟨wo.heap.size, k, none⟩) (by show w.heap.size ≤ wo.heap.size; have := HGE.out; omega) (.int .u32 ((u : Nat) : Int))
                  rw [← hl] at hco
                  rw [← hc]
                  have bk0 : (0 : Int) ≤ (k : Int) := by omega
                  have bk1 : (k : Int) < 8 := by omega
                  have HSET := Lib.hid hset
                  have HZ2 := Lib.hid hz2
                  have HBE2 := Lib.hid hbe2
                  have HU := Lib.hid hu
                  have HD := Lib.hid hd
                  have HDN := Lib.hid hdn
                  clear hz hrow hbe hset hz2 hbe2 hl hc hu hd hdn hsz hlz
                  have hsum : (c : Int) + (l : Int) = ((c + l : Nat) : Int) := by omega
                  have hD : c + l < 18446744073709551616 := by omega
                  have hu' := HU.out
                  have hd' := HD.out
                  have hlo : ((c : Int) + (l : Int)) % 4294967296 = ((u : Nat) : Int) := by omega
                  have hhi : ((c : Int) + (l : Int)) / 4294967296 = ((d : Nat) : Int) := by omega
                  have HLO := Lib.hid hlo
                  have HHI := Lib.hid hhi
                  clear hlo hhi hsum hu' hd' hD
                  go_wp2_with fail
                  rw [HLO.out, HHI.out]
                  go_roundw
                  case rel => exact ⟨k + 1, by omega, by go_num, by rw [← HDN.out], HZ2.out, HSET.out, HBE2.out⟩
                  case measure => simp [intOf] <;> omega
                · obtain rfl : k = 8 := by omega
                  have hall := cG_all v HOO.out
                  have hgpp := G_pp O v
                  rw [← hall, HPV.out] at hgpp
                  have h9 := cG_8 HOO.out hv9
                  rw [tG_end] at hrow
                  have hO2 : sG O v 8 % W8 < W8 := Nat.mod_lt _ W8_pos
                  have hrd2 := rdN_row hrow hO2
                  generalize sG O v 8 % W8 = O2 at *
                  generalize cG O v 8 = v2 at *
                  have HZ2 := Lib.hid hz
                  have HROW2 := Lib.hid hrow
                  have HBE2 := Lib.hid hbe
                  have HALL := Lib.hid hall
                  have HGPP := Lib.hid hgpp
                  have HO2 := Lib.hid hO2
                  have HRD2 := Lib.hid hrd2
                  clear hz hrow hbe hall hgpp hO2 hrd2 hsz hlz
                  go_wp2_with fail
                  go_roundw
                  case rel => exact ⟨O2, v2, HO2.out, h9, rfl, HGPP.out, HZ2.out, HROW2.out, HBE2.out⟩
                  case measure =>
                    rw [HRD2.out, HRD.out]
                    have hw : W8 = 115792089237316195423570985008687907853269984665640564039457584007913129639936 := W8_eq
                    have := HALL.out
                    simp [intOf]
                    rw [hw] at this ⊢
                    omega
end

end Go.Proofs.YthpbipebpaeagaaDoor
