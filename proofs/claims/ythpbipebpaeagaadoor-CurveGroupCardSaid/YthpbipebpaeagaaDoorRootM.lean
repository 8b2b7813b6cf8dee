/- What the program's inverse and root tell: plain arithmetic. -/
import Derived.Test.YthpbipebpaeagaaDoorPowM
import Derived.Test.YthpbipebpaeagaaDoorFp
namespace Go.Proofs.YthpbipebpaeagaaDoor

/-- The prime. -/
def pp : Nat := 57896044618658097711785492504343953926634992332820282019728792003956564819949
theorem pp_eq : pp = 57896044618658097711785492504343953926634992332820282019728792003956564819949 := rfl
theorem pp_prime : Pr pp := prP
theorem pp_inv : pp - 2 = eInv := by decide
theorem pp_rt : pp = 8 * eRt + 5 := by decide
theorem nu_pp (x : Lm) : nu x < pp := nu_lt x
theorem nu_mod (x : Lm) : nu x % pp = nu x := Nat.mod_eq_of_lt (nu_lt x)
theorem nu_mulP (x y : Lm) : nu (mulL x y) = nu x * nu y % pp := nu_mulL x y
theorem nu_addP (x y : Lm) : nu (addL x y) = (nu x + nu y) % pp := nu_addL x y
theorem nu_subP (x : Lm) {y : Lm} (hy : y.ok) : nu (subL x y) = (nu x + (pp - nu y)) % pp := nu_subL x hy
theorem nu_negP {x : Lm} (h : x.ok) : nu (negL x) = (pp - nu x) % pp := nu_negL h
theorem nu_invP (x : Lm) : nu (invL x) = nu x ^ (pp - 2) % pp := by rw [pp_inv]; exact nu_invL x
theorem nu_powP (x : Lm) {N : Nat} (hN : N < 2 ^ 256) : nu (powL x N) = nu x ^ N % pp := nu_powL x hN

/-- The inverse is one. -/
theorem inv_one (x : Lm) : nu (mulL x (invL x)) = if nu x = 0 then 0 else 1 := by
  rw [nu_mulP, nu_invP, Nat.mul_mod_mod]
  by_cases h : nu x = 0
  · rw [if_pos h, h, Nat.zero_mul, Nat.zero_mod]
  · rw [if_neg h]
    exact inv_mul pp_prime (by rw [nu_mod]; exact h)

theorem nu_v3 (v : Lm) : nu (v3L v) = nu v ^ 3 % pp := by
  show nu (mulL (mulL v v) v) = _
  rw [nu_mulP, nu_mulP, Nat.mod_mul_mod]
  congr 1
  rw [Nat.pow_succ, Nat.pow_two]
theorem nu_v7 (v : Lm) : nu (v7L v) = nu v ^ 7 % pp := by
  show nu (mulL (mulL (v3L v) (v3L v)) v) = _
  rw [nu_mulP, nu_mulP, nu_v3, Nat.mod_mul_mod, Nat.mul_assoc, Nat.mod_mul_mod, Nat.mul_left_comm, Nat.mod_mul_mod]
  congr 1
  rw [← Nat.mul_assoc, ← Nat.pow_add, ← Nat.pow_succ]
theorem nu_cand (u v : Lm) : nu (candL u v) = nu u * nu v ^ 3 * (nu u * nu v ^ 7) ^ eRt % pp := by
  show nu (mulL (mulL u (v3L v)) (powL (mulL u (v7L v)) eRt)) = _
  rw [nu_mulP, nu_mulP, nu_powP _ eRt_lt, nu_mulP, nu_v3, nu_v7, Nat.mul_mod_mod, Nat.mul_mod_mod, Nat.mod_mul_mod, Nat.mul_mod_mod, Nat.mul_mod, ← Nat.pow_mod, ← Nat.mul_mod]
/-- The quotient. -/
def quo (u v : Lm) : Nat := nu u * nu v ^ (pp - 2)
theorem quo_v {u v : Lm} (hv : nu v ≠ 0) : quo u v * nu v % pp = nu u % pp := quo_mul pp_prime (by rw [nu_mod]; exact hv)
theorem cand_q {u v : Lm} (hv : nu v ≠ 0) : nu (candL u v) % pp = quo u v ^ (eRt + 1) % pp := by
  rw [nu_cand, Nat.mod_mod]
  exact cand pp_prime pp_rt (by rw [nu_mod]; exact hv) (quo_v hv)
theorem fitB_iff {r u v : Lm} (hv : nu v ≠ 0) : fitB r u v = true ↔ nu r * nu r % pp = quo u v % pp := by
  unfold fitB
  rw [decide_eq_true_iff, nu_mulP, nu_mulP, Nat.mod_mul_mod, ← fits_iff (q := quo u v) pp_prime (by rw [nu_mod]; exact hv) (quo_v hv), nu_mod u]
/-- A number that fits. -/
theorem root_sq {u v : Lm} (hv : nu v ≠ 0) (h : rootOk u v = true) : nu (root1 u v) * nu (root1 u v) % pp = quo u v % pp := by
  unfold rootOk at h
  rw [Bool.and_eq_true] at h
  exact (fitB_iff hv).1 h.2
theorem root_none {u v : Lm} (hv : nu v = 0) : rootOk u v = false := by
  unfold rootOk
  rw [decide_eq_true hv]
  rfl
theorem jj : (nu rtL * nu rtL + 1) % pp = 0 := by rw [nu_rtL]; exact rt_sq
/-- Of a square there is one. -/
theorem root_some {u v : Lm} (hv : nu v ≠ 0) {s : Nat} (hs : quo u v % pp = s * s % pp) : rootOk u v = true := by
  have hc := cand_q (u := u) hv
  have key : fitB (root1 u v) u v = true := by
    unfold root1
    split
    · rename_i h; exact h
    · rename_i h
      rw [fitB_iff hv] at h ⊢
      rcases sq_root (E := eRt) pp_prime pp_rt jj hs with h1 | h1
      · exfalso
        refine h ?_
        rw [← h1]
        exact mm hc hc
      · rw [← h1, nu_mulP, Nat.mod_mul_mod, Nat.mul_mod_mod]
        exact mm (mm hc rfl) (mm hc rfl)
  unfold rootOk
  rw [key, decide_eq_false hv]
  rfl
theorem rootL_even {u v : Lm} (hu : u.ok) (hv : v.ok) : nu (rootL u v) % 2 = 0 := by
  unfold rootL
  split
  · split
    · rename_i h1 h2
      have h3 := nu_pp (root1 u v)
      have h4 : 0 < nu (root1 u v) := by omega
      rw [nu_negP (root1_ok hu hv)]
      generalize nu (root1 u v) = r at *
      have e : (pp - r) % pp = pp - r := Nat.mod_eq_of_lt (by omega)
      rw [e]
      have hp : pp % 2 = 1 := by decide
      omega
    · rename_i h1 h2; omega
  · rw [nu_zeL]
theorem rootL_sq {u v : Lm} (hu : u.ok) (hvk : v.ok) (hv : nu v ≠ 0) (h : rootOk u v = true) : nu (rootL u v) * nu (rootL u v) % pp = quo u v % pp := by
  have h1 := root_sq hv h
  unfold rootL
  rw [h, if_pos rfl]
  split
  · rw [nu_negP (root1_ok hu hvk), ← h1]
    have h3 := nu_pp (root1 u v)
    generalize nu (root1 u v) = r at *
    rw [← Nat.mul_mod]
    have e : (pp - r) * (pp - r) + pp * (2 * r) = r * r + pp * pp := by
      obtain ⟨d, hd⟩ : ∃ d, pp = r + d := ⟨pp - r, by omega⟩
      rw [hd, Nat.add_sub_cancel_left]
      grind
    have e2 := congrArg (· % pp) e
    simp only [Nat.add_mul_mod_self_left] at e2
    exact e2
  · exact h1
/-- The one that isn't odd is told. -/
theorem rootL_is {u v : Lm} (hu : u.ok) (hvk : v.ok) (hv : nu v ≠ 0) {s : Nat} (hs : quo u v % pp = s * s % pp) (hl : s < pp) (he : s % 2 = 0) : rootOk u v = true ∧ nu (rootL u v) = s := by
  have h1 := root_some hv hs
  refine ⟨h1, ?_⟩
  have h2 := rootL_sq hu hvk hv h1
  have h3 := rootL_even hu hvk
  have h4 := nu_pp (rootL u v)
  rw [hs] at h2
  generalize nu (rootL u v) = r at *
  rcases sq_eq pp_prime h2 with h | h
  · rwa [Nat.mod_eq_of_lt h4, Nat.mod_eq_of_lt hl] at h
  · have hd := Nat.dvd_of_mod_eq_zero h
    obtain ⟨k, hk⟩ := hd
    have hp : pp % 2 = 1 := by decide
    match k with
    | 0 => rw [Nat.mul_zero] at hk; omega
    | 1 => rw [Nat.mul_one] at hk; omega
    | k + 2 =>
      have h5 : pp * (k + 2) = pp * k + pp + pp := by rw [Nat.mul_add, Nat.mul_two]; omega
      rw [h5] at hk
      omega

end Go.Proofs.YthpbipebpaeagaaDoor
