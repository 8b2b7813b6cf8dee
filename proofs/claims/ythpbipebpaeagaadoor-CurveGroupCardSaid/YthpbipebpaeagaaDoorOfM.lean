/- Bytes of a number and its limbs: plain arithmetic. -/
import Derived.Test.YthpbipebpaeagaaDoorNumb
import Derived.Test.YthpbipebpaeagaaDoorLm
namespace Go.Proofs.YthpbipebpaeagaaDoor

/-- What of the first k bytes stands in limb j. -/
def ofl (N : Nat) : Nat → Nat → Nat
  | 0, _ => 0
  | k + 1, j => ofl N k j + if 8 * k / 51 = j then byt N k * 2 ^ (8 * k % 51) else 0
theorem ofl_mono (N j : Nat) {k n : Nat} (h : k ≤ n) : ofl N k j ≤ ofl N n j := by
  induction h with
  | refl => exact Nat.le_refl _
  | step _ ih => exact Nat.le_trans ih (Nat.le_add_right _ _)
/-- What that is at most. -/
def obd : Nat → Nat → Nat
  | 0, _ => 0
  | k + 1, j => obd k j + if 8 * k / 51 = j then 255 * 2 ^ (8 * k % 51) else 0
theorem ofl_le (N j : Nat) : ∀ k, ofl N k j ≤ obd k j
  | 0 => Nat.le_refl _
  | k + 1 => by
    have ih := ofl_le N j k
    have hb := byt_lt N k
    show ofl N k j + (if 8 * k / 51 = j then byt N k * 2 ^ (8 * k % 51) else 0) ≤ obd k j + (if 8 * k / 51 = j then 255 * 2 ^ (8 * k % 51) else 0)
    split
    · have := Nat.mul_le_mul_right (2 ^ (8 * k % 51)) (show byt N k ≤ 255 by omega)
      omega
    · omega
theorem ofl_lt (N j : Nat) (hj : j < 5) : ofl N 32 j < 4611686018427387904 := by
  have h : ∀ j, j < 5 → obd 32 j < 4611686018427387904 := by decide +kernel
  exact Nat.lt_of_le_of_lt (ofl_le N j 32) (h j hj)
theorem byt_mod255 (N : Nat) {i : Nat} (hi : i < 31) : byt (N % 57896044618658097711785492504343953926634992332820282019728792003956564819968) i = byt N i := by
  unfold byt
  have e : (57896044618658097711785492504343953926634992332820282019728792003956564819968 : Nat) = 2 ^ (8 * i) * (256 * 2 ^ (247 - 8 * i)) := by
    rw [show (256 : Nat) = 2 ^ 8 from rfl, ← Nat.pow_add, ← Nat.pow_add, show 8 * i + (8 + (247 - 8 * i)) = 255 by omega]
  rw [e, Nat.mod_mul_right_div_self, Nat.mod_mul_right_mod]
theorem byt_mod255_31 (N : Nat) : byt (N % 57896044618658097711785492504343953926634992332820282019728792003956564819968) 31 = byt N 31 % 128 := by
  unfold byt
  rw [show (2 : Nat) ^ (8 * 31) = 452312848583266388373324160190187140051835877600158453279131187530910662656 by decide]
  omega
/-- The first limbs tell the first bytes. -/
theorem ofl_sum (N : Nat) : ∀ k, k ≤ 32 → V5 (ofl N k 0) (ofl N k 1) (ofl N k 2) (ofl N k 3) (ofl N k 4) = N % 256 ^ k
  | 0, _ => by rw [Nat.pow_zero, Nat.mod_one]; rfl
  | k + 1, h => by
    have ih := ofl_sum N k (by omega)
    have e : N % 256 ^ (k + 1) = N % 256 ^ k + 256 ^ k * byt N k := by
      rw [Nat.pow_succ, Nat.mod_mul]
      unfold byt
      rw [← pow256]
    rw [e, ← ih]
    have hp : 256 ^ k * byt N k = 2251799813685248 ^ (8 * k / 51) * (byt N k * 2 ^ (8 * k % 51)) := by
      have h1 : 256 ^ k = 2251799813685248 ^ (8 * k / 51) * 2 ^ (8 * k % 51) := by
        rw [pow256, show (2251799813685248 : Nat) = 2 ^ 51 from rfl, ← Nat.pow_mul, ← Nat.pow_add]
        congr 1
        omega
      rw [h1, Nat.mul_assoc, Nat.mul_comm (2 ^ _)]
    rw [hp]
    have hj : 8 * k / 51 < 5 := by omega
    rw [V5_lin, V5_lin]
    simp only [ofl]
    generalize byt N k * 2 ^ (8 * k % 51) = X at *
    generalize 8 * k / 51 = j at *
    match j, hj with
    | 0, _ => simp; omega
    | 1, _ => simp; omega
    | 2, _ => simp; omega
    | 3, _ => simp; omega
    | 4, _ => simp; omega
/-- The limbs of bytes. -/
def raL (N : Nat) : Lm := ⟨ofl N 32 0, ofl N 32 1, ofl N 32 2, ofl N 32 3, ofl N 32 4⟩
theorem raL_wide (N : Nat) : (raL N).wide := ⟨ofl_lt N 0 (by decide), ofl_lt N 1 (by decide), ofl_lt N 2 (by decide), ofl_lt N 3 (by decide), ofl_lt N 4 (by decide)⟩
/-- The program's number of bytes. -/
def ofB (N : Nat) : Lm := crL (raL (N % 57896044618658097711785492504343953926634992332820282019728792003956564819968))
theorem ofB_ok (N : Nat) : (ofB N).ok := crL_ok (raL_wide _)
theorem nu_ofB (N : Nat) : nu (ofB N) = N % 57896044618658097711785492504343953926634992332820282019728792003956564819968 % 57896044618658097711785492504343953926634992332820282019728792003956564819949 := by
  show nu (crL (raL _)) = _
  rw [nu_crL]
  show V5 (ofl _ 32 0) (ofl _ 32 1) (ofl _ 32 2) (ofl _ 32 3) (ofl _ 32 4) % _ = _
  rw [ofl_sum _ 32 (by decide), Nat.mod_eq_of_lt (b := 256 ^ 32)]
  exact Nat.lt_of_lt_of_le (Nat.mod_lt _ (by decide)) (by decide)

/-- A byte of two limbs. -/
theorem byte_limbs (D E t : Nat) (hD : D < 2251799813685248) (ht : t ≤ 50) : (D / 2 ^ t) % 256 ||| (E * 2 ^ (51 - t)) % 256 = ((D + 2251799813685248 * E) / 2 ^ t) % 256 := by
  have hs : (2251799813685248 : Nat) = 2 ^ t * 2 ^ (51 - t) := by rw [← Nat.pow_add, show t + (51 - t) = 51 by omega]
  have hA : D / 2 ^ t < 2 ^ (51 - t) := (Nat.div_lt_iff_lt_mul (Nat.two_pow_pos t)).2 (by rw [Nat.mul_comm, ← hs]; exact hD)
  rw [hs, Nat.mul_assoc, Nat.add_mul_div_left _ _ (Nat.two_pow_pos t), Nat.mul_comm E]
  generalize D / 2 ^ t = A at *
  by_cases h8 : 8 ≤ 51 - t
  · obtain ⟨m, hm⟩ : ∃ m, 2 ^ (51 - t) = 256 * m := ⟨2 ^ (51 - t - 8), by rw [show (256 : Nat) = 2 ^ 8 from rfl, ← Nat.pow_add]; congr 1; omega⟩
    rw [hm, Nat.mul_assoc, Nat.mul_mod_right, Nat.or_zero, Nat.add_mul_mod_self_left]
  · obtain ⟨m, hm⟩ : ∃ m, 256 = 2 ^ (51 - t) * m := ⟨2 ^ (8 - (51 - t)), by rw [show (256 : Nat) = 2 ^ 8 from rfl, ← Nat.pow_add]; congr 1; omega⟩
    have hA2 : A < 256 := Nat.lt_of_lt_of_le hA (by rw [show (256 : Nat) = 2 ^ 8 from rfl]; exact Nat.pow_le_pow_right (by decide) (by omega))
    have e : 2 ^ (51 - t) * E % 256 = 2 ^ (51 - t) * (E % m) := by rw [hm, Nat.mul_mod_mul_left]
    have e2 : (A + 2 ^ (51 - t) * E) % 256 = A + 2 ^ (51 - t) * (E % m) := by
      have h1 : (A + 2 ^ (51 - t) * E) % 256 = (A + 2 ^ (51 - t) * E % 256) % 256 := by omega
      rw [h1, e]
      refine Nat.mod_eq_of_lt ?_
      have hm0 : 0 < m := by rcases Nat.eq_zero_or_pos m with h | h; (rw [h] at hm; omega); exact h
      have hl := Nat.mod_lt E hm0
      have h2 : 2 ^ (51 - t) * (E % m + 1) ≤ 2 ^ (51 - t) * m := Nat.mul_le_mul_left _ hl
      rw [Nat.mul_add, ← hm] at h2
      omega
    rw [e, e2, Nat.mod_eq_of_lt hA2, Nat.or_comm, ← Nat.two_pow_add_eq_or_of_lt hA, Nat.add_comm]

theorem dg_div (N : Nat) : ∀ k, dg N k = N / 2251799813685248 ^ k % 2251799813685248
  | 0 => by rw [Nat.pow_zero, Nat.div_one]; rfl
  | k + 1 => by
    show dg (N / 2251799813685248) k = _
    rw [dg_div _ k, Nat.div_div_eq_div_mul, Nat.pow_succ, Nat.mul_comm (2251799813685248 ^ k)]
theorem dg_lt (N k : Nat) : dg N k < 2251799813685248 := by rw [dg_div]; exact Nat.mod_lt _ (by decide)
/-- A byte of a number, of its digits. -/
theorem byt_dg (N i : Nat) : (dg N (8 * i / 51) / 2 ^ (8 * i % 51)) % 256 ||| (dg N (8 * i / 51 + 1) * 2 ^ (51 - 8 * i % 51)) % 256 = byt N i := by
  rw [byte_limbs _ _ _ (dg_lt _ _) (by omega)]
  have e1 : dg N (8 * i / 51) + 2251799813685248 * dg N (8 * i / 51 + 1) = N / 2251799813685248 ^ (8 * i / 51) % (2251799813685248 * 2251799813685248) := by
    rw [dg_div, dg_div, Nat.mod_mul, Nat.pow_succ, Nat.div_div_eq_div_mul]
  have e2 : (2251799813685248 * 2251799813685248 : Nat) = 2 ^ (8 * i % 51) * (256 * 2 ^ (94 - 8 * i % 51)) := by
    rw [show (256 : Nat) = 2 ^ 8 from rfl, ← Nat.pow_add, ← Nat.pow_add, show 8 * i % 51 + (8 + (94 - 8 * i % 51)) = 102 by omega]
  rw [e1, e2, Nat.mod_mul_right_div_self, Nat.mod_mul_right_mod, Nat.div_div_eq_div_mul]
  unfold byt
  congr 2
  rw [show (2251799813685248 : Nat) = 2 ^ 51 from rfl, ← Nat.pow_mul, ← Nat.pow_add]
  congr 1
  omega
/-- The highest ones come of the last digit alone. -/
theorem byt_dg4 {N i : Nat} (hN : N < 57896044618658097711785492504343953926634992332820282019728792003956564819968) (h4 : 8 * i / 51 = 4) : (dg N 4 / 2 ^ (8 * i % 51)) % 256 = byt N i := by
  have h := byt_dg N i
  have h5 : dg N 5 = 0 := by
    rw [dg_div, Nat.div_eq_of_lt, Nat.zero_mod]
    exact hN
  rw [h4, h5, Nat.zero_mul, Nat.zero_mod, Nat.or_zero] at h
  exact h

/-- Limbs by number. -/
def Lm.get (x : Lm) : Nat → Nat
  | 0 => x.a
  | 1 => x.b
  | 2 => x.c
  | 3 => x.d
  | _ => x.e
/-- What is carried into a limb. -/
def cin (x : Lm) (s : Nat) : Nat → Nat
  | 0 => s
  | k + 1 => (x.get k + cin x s k) / 2251799813685248
/-- What a limb is then. -/
def lout (x : Lm) (s k : Nat) : Nat := (x.get k + cin x s k) % 2251799813685248
theorem cin_lt {x : Lm} (h : x.ok) {s : Nat} (hs : s < 2251799813685248) : ∀ k, cin x s k < 2251799813685248
  | 0 => hs
  | k + 1 => by
    have ih := cin_lt h hs k
    have hg : x.get k < 4503599627370496 := by
      match k with
      | 0 => exact h.a
      | 1 => exact h.b
      | 2 => exact h.c
      | 3 => exact h.d
      | _ + 4 => exact h.e
    show (x.get k + cin x s k) / 2251799813685248 < _
    omega
theorem Lm.get_lt {x : Lm} (h : x.ok) (k : Nat) : x.get k < 4503599627370496 := by
  match k with
  | 0 => exact h.a
  | 1 => exact h.b
  | 2 => exact h.c
  | 3 => exact h.d
  | _ + 4 => exact h.e
theorem lout_lt (x : Lm) (s k : Nat) : lout x s k < 2251799813685248 := Nat.mod_lt _ (by decide)
/-- The least form is told by the two rounds. -/
theorem cin_19 (y : Lm) : cin y 19 5 = o4 y.a y.b y.c y.d y.e := rfl
theorem lout_dg (y : Lm) (s : Nat) : lout y s 0 = dg (V5 y.a y.b y.c y.d y.e + s) 0 ∧ lout y s 1 = dg (V5 y.a y.b y.c y.d y.e + s) 1 ∧ lout y s 2 = dg (V5 y.a y.b y.c y.d y.e + s) 2 ∧ lout y s 3 = dg (V5 y.a y.b y.c y.d y.e + s) 3 ∧ lout y s 4 = dg (V5 y.a y.b y.c y.d y.e + s) 4 := dg_V5 y.a y.b y.c y.d y.e s
theorem dg_low (M k : Nat) (hk : k < 5) : dg (M % (57896044618658097711785492504343953926634992332820282019728792003956564819949 + 19)) k = dg M k := by
  match k, hk with
  | 0, _ => simp only [dg]; omega
  | 1, _ => simp only [dg]; omega
  | 2, _ => simp only [dg]; omega
  | 3, _ => simp only [dg]; omega
  | 4, _ => simp only [dg]; omega
theorem least_lout {x : Lm} (h : x.ok) (k : Nat) (hk : k < 5) : lout (crL x) (cin (crL x) 19 5 * 19) k = dg (nu x) k := by
  have hlt : V5 (crL x).a (crL x).b (crL x).c (crL x).d (crL x).e < 2 * 57896044618658097711785492504343953926634992332820282019728792003956564819949 := by
    obtain ⟨_, _, _, _, _⟩ := h
    refine least_lt _ _ _ _ _ ?_ ?_ ?_ ?_ ?_ <;> simp only [crL] <;> omega
  have hv := least_val hlt
  rw [cin_19, o4_eq]
  have hnu : nu x = V5 (crL x).a (crL x).b (crL x).c (crL x).d (crL x).e % 57896044618658097711785492504343953926634992332820282019728792003956564819949 := (nu_crL x).symm
  rw [hnu, ← hv, dg_low _ _ hk]
  obtain ⟨d0, d1, d2, d3, d4⟩ := lout_dg (crL x) ((V5 (crL x).a (crL x).b (crL x).c (crL x).d (crL x).e + 19) / (57896044618658097711785492504343953926634992332820282019728792003956564819949 + 19) * 19)
  match k, hk with
  | 0, _ => exact d0
  | 1, _ => exact d1
  | 2, _ => exact d2
  | 3, _ => exact d3
  | 4, _ => exact d4

end Go.Proofs.YthpbipebpaeagaaDoor
