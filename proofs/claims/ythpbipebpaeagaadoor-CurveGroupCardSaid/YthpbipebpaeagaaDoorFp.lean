import Derived.Test.YthpbipebpaeagaaDoorPrime
/- Inverses and roots modulo a prime: plain arithmetic. Nothing here names a dump. -/
namespace Go.Proofs.YthpbipebpaeagaaDoor

theorem mm {P a a' b b' : Nat} (h : a % P = a' % P) (h' : b % P = b' % P) : a * b % P = a' * b' % P := by
  rw [Nat.mul_mod, h, h', ← Nat.mul_mod]
theorem mp {P a a' : Nat} (n : Nat) (h : a % P = a' % P) : a ^ n % P = a' ^ n % P := by
  rw [Nat.pow_mod, h, ← Nat.pow_mod]

theorem Pr.two {P : Nat} (h : Pr P) : 2 ≤ P := h.1

/-- A prime that divides a product divides a factor. -/
theorem Pr.mul {P a b : Nat} (hP : Pr P) (h : a * b % P = 0) : a % P = 0 ∨ b % P = 0 := by
  by_cases ha : a % P = 0
  · exact .inl ha
  · exact .inr (Nat.mod_eq_zero_of_dvd (Nat.Coprime.dvd_of_dvd_mul_left (hP.coprime ha) (Nat.dvd_of_mod_eq_zero h)))

/-- The inverse. -/
theorem inv_mul {P v : Nat} (hP : Pr P) (hv : v % P ≠ 0) : v * v ^ (P - 2) % P = 1 := by
  have h2 := hP.1
  rw [← Nat.pow_succ', show (P - 2).succ = P - 1 by omega]
  exact hP.fermat hv
theorem inv_zero {P v w : Nat} (hv : v % P = 0) : v * w % P = 0 := by
  rw [Nat.mul_mod, hv, Nat.zero_mul, Nat.zero_mod]

/-- What is divided and multiplied again is what it was. -/
theorem quo_mul {P u v : Nat} (hP : Pr P) (hv : v % P ≠ 0) : u * v ^ (P - 2) * v % P = u % P := by
  rw [Nat.mul_assoc, Nat.mul_comm (v ^ (P - 2)), Nat.mul_mod, inv_mul hP hv, Nat.mul_one, Nat.mod_mod]

/-- The root's candidate, with no inverse. -/
theorem cand {P E u v q : Nat} (hP : Pr P) (hE : P = 8 * E + 5) (hv : v % P ≠ 0) (hq : q * v % P = u % P) :
    u * v ^ 3 * (u * v ^ 7) ^ E % P = q ^ (E + 1) % P := by
  have h1 : u * v ^ 3 * (u * v ^ 7) ^ E % P = q * v * v ^ 3 * (q * v * v ^ 7) ^ E % P :=
    mm (mm hq.symm rfl) (mp E (mm hq.symm rfl))
  have h2 : q * v * v ^ 3 * (q * v * v ^ 7) ^ E = q ^ (E + 1) * v ^ (P - 1) := by
    have e1 : q * v * v ^ 3 = q * v ^ 4 := by rw [Nat.mul_assoc, ← Nat.pow_succ']
    have e2 : q * v * v ^ 7 = q * v ^ 8 := by rw [Nat.mul_assoc, ← Nat.pow_succ']
    have e3 : P - 1 = 4 + 8 * E := by omega
    rw [e1, e2, e3, Nat.mul_pow, ← Nat.pow_mul, Nat.pow_add v, Nat.pow_add q, Nat.pow_one, Nat.mul_comm (q ^ E) q]
    exact Nat.mul_mul_mul_comm ..
  rw [h1, h2, Nat.mul_mod, hP.fermat hv, Nat.mul_one, Nat.mod_mod]

/-- Whether a number fits as the root of a quotient. -/
theorem fits_iff {P u v q r : Nat} (hP : Pr P) (hv : v % P ≠ 0) (hq : q * v % P = u % P) :
    r * r * v % P = u % P ↔ r * r % P = q % P := by
  constructor
  · intro h
    exact mod_cancel (hP.coprime hv) (h.trans hq.symm)
  · intro h
    exact (mm h rfl).trans hq

/-- Two numbers whose squares are the same. -/
theorem sq_eq {P r u : Nat} (hP : Pr P) (h : r * r % P = u * u % P) : r % P = u % P ∨ (r + u) % P = 0 := by
  have key : ∀ a b : Nat, b ≤ a → a * a % P = b * b % P → a % P = b % P ∨ (a + b) % P = 0 := by
    intro a b hab h
    have h1 : (a * a - b * b) % P = 0 := Nat.sub_mod_eq_zero_of_mod_eq h
    have h2 : a * a - b * b = (a - b) * (a + b) := by
      obtain ⟨c, rfl⟩ : ∃ c, a = b + c := ⟨a - b, by omega⟩
      have : (b + c) * (b + c) = b * b + c * (b + c + b) := by grind
      rw [this, Nat.add_sub_cancel_left, Nat.add_sub_cancel_left]
    rw [h2] at h1
    rcases hP.mul h1 with h3 | h3
    · left
      obtain ⟨k, hk⟩ := Nat.dvd_of_mod_eq_zero h3
      have : a = b + P * k := by omega
      rw [this, Nat.add_mul_mod_self_left]
    · exact .inr h3
  rcases Nat.le_total u r with h1 | h1
  · exact key r u h1 h
  · rcases key u r h1 h.symm with h2 | h2
    · exact .inl h2.symm
    · exact .inr (by rwa [Nat.add_comm])

/-- The half power is 1 or -1. -/
theorem half_pow {P h u : Nat} (hP : Pr P) (hh : P = 2 * h + 1) (hu : u % P ≠ 0) : u ^ h % P = 1 ∨ (u ^ h + 1) % P = 0 := by
  have h2 := hP.1
  have h1 : u ^ h * u ^ h % P = 1 * 1 % P := by
    rw [← Nat.pow_add, show h + h = P - 1 by omega, hP.fermat hu, Nat.mod_eq_of_lt (by omega)]
  rcases sq_eq hP h1 with h3 | h3
  · exact .inl (by rw [h3, Nat.mod_eq_of_lt (by omega)])
  · exact .inr h3

/-- Of a square there is a root: the power, or that times a root of -1. -/
theorem sq_root {P E u j q : Nat} (hP : Pr P) (hE : P = 8 * E + 5) (hj : (j * j + 1) % P = 0) (hq : q % P = u * u % P) :
    q ^ (E + 1) * q ^ (E + 1) % P = q % P ∨ q ^ (E + 1) * j * (q ^ (E + 1) * j) % P = q % P := by
  have h2 := hP.1
  have hr : q ^ (E + 1) * q ^ (E + 1) % P = u ^ (4 * E + 2) * (u * u) % P := by
    have h1 := mp (E + 1) hq
    refine (mm h1 h1).trans ?_
    have e1 : (u * u) ^ (E + 1) * (u * u) ^ (E + 1) = u ^ (4 * E + 2) * (u * u) := by
      rw [← Nat.pow_two u, ← Nat.pow_mul, ← Nat.pow_add, ← Nat.pow_add]
      congr 1
      omega
    rw [e1]
  by_cases hu : u % P = 0
  · left
    have h0 : u * u % P = 0 := inv_zero hu
    rw [hr, hq, Nat.mul_mod, h0, Nat.mul_zero, Nat.zero_mod]
  · rcases half_pow (h := 4 * E + 2) hP (by omega) hu with h1 | h1
    · left
      rw [hr, hq, Nat.mul_mod, h1, Nat.one_mul, Nat.mod_mod]
    · right
      have e1 : q ^ (E + 1) * j * (q ^ (E + 1) * j) % P = u ^ (4 * E + 2) * (u * u) * (j * j) % P := by
        rw [Nat.mul_mul_mul_comm]
        exact mm hr rfl
      have e2 : u ^ (4 * E + 2) * (u * u) * (j * j) + ((j * j + 1) * (u * u)) = (u ^ (4 * E + 2) + 1) * (u * u) * (j * j) + u * u := by grind
      have e3 : (u ^ (4 * E + 2) * (u * u) * (j * j) + ((j * j + 1) * (u * u))) % P = u ^ (4 * E + 2) * (u * u) * (j * j) % P := by
        rw [Nat.add_mod, inv_zero hj, Nat.add_zero, Nat.mod_mod]
      have e4 : ((u ^ (4 * E + 2) + 1) * (u * u) * (j * j) + u * u) % P = u * u % P := by
        rw [Nat.add_mod, Nat.mul_assoc, inv_zero h1, Nat.zero_add, Nat.mod_mod]
      rw [e1, hq, ← e3, e2, e4]

/-- The root of -1. -/
theorem rt_minus (e : Nat) (he : e = 14474011154664524427946373126085988481658748083205070504932198000989141204987) :
    2 ^ e % 57896044618658097711785492504343953926634992332820282019728792003956564819949 = 19681161376707505956807079304988542015446066515923890162744021073123829784752 := by
  rw [← pm_eq _ 255 2 e (by rw [he]; decide), he]
  decide +kernel
theorem rt_sq : (19681161376707505956807079304988542015446066515923890162744021073123829784752 * 19681161376707505956807079304988542015446066515923890162744021073123829784752 + 1) % 57896044618658097711785492504343953926634992332820282019728792003956564819949 = 0 := by decide

end Go.Proofs.YthpbipebpaeagaaDoor
