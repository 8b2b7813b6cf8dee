/- Powers and roots of numbers of five limbs: plain arithmetic. -/
import Derived.Test.YthpbipebpaeagaaDoorOfM
namespace Go.Proofs.YthpbipebpaeagaaDoor

def oneL : Lm := ⟨1, 0, 0, 0, 0⟩
theorem oneL_ok : oneL.ok := by constructor <;> decide
theorem nu_oneL : nu oneL = 1 := by decide +kernel
/-- From above downwards: so many bits. -/
def pwS (x : Lm) (N : Nat) (o : Lm) : Nat → Lm
  | 0 => o
  | k + 1 => if N / 2 ^ (255 - k) % 2 = 1 then mulL (mulL (pwS x N o k) (pwS x N o k)) x else mulL (pwS x N o k) (pwS x N o k)
theorem pwS_ok {x o : Lm} (N : Nat) (hx : x.ok) (ho : o.ok) : ∀ k, (pwS x N o k).ok
  | 0 => ho
  | k + 1 => by
    have ih := pwS_ok N hx ho k
    unfold pwS
    split
    · exact mulL_ok (mulL_ok ih ih) hx
    · exact mulL_ok ih ih
def powL (x : Lm) (N : Nat) : Lm := pwS x N oneL 256
theorem powL_ok {x : Lm} (hx : x.ok) (N : Nat) : (powL x N).ok := pwS_ok N hx oneL_ok 256
theorem nu_pwS (x : Lm) (N : Nat) (hN : N < 2 ^ 256) : ∀ k, k ≤ 256 → nu (pwS x N oneL k) = nu x ^ (N / 2 ^ (256 - k)) % 57896044618658097711785492504343953926634992332820282019728792003956564819949
  | 0, _ => by
    have h : N / 2 ^ (256 - 0) = 0 := Nat.div_eq_of_lt hN
    rw [h]
    exact nu_oneL
  | k + 1, hk => by
    have ih := nu_pwS x N hN k (by omega)
    have e : 256 - k = (255 - k) + 1 := by omega
    have e1 : 256 - (k + 1) = 255 - k := by omega
    obtain ⟨M, hM⟩ : ∃ M, N / 2 ^ (255 - k) = M := ⟨_, rfl⟩
    have h2 : N / 2 ^ (256 - k) = M / 2 := by rw [e, Nat.pow_succ, ← Nat.div_div_eq_div_mul, hM]
    rw [e1, hM]
    rw [h2] at ih
    have hsq : nu (mulL (pwS x N oneL k) (pwS x N oneL k)) = nu x ^ (M / 2 + M / 2) % 57896044618658097711785492504343953926634992332820282019728792003956564819949 := by
      rw [nu_mulL, ih, ← Nat.mul_mod, ← Nat.pow_add]
    show nu (if N / 2 ^ (255 - k) % 2 = 1 then mulL (mulL (pwS x N oneL k) (pwS x N oneL k)) x else mulL (pwS x N oneL k) (pwS x N oneL k)) = _
    rw [hM]
    by_cases hb : M % 2 = 1
    · rw [if_pos hb, nu_mulL, hsq]
      have e3 : M = M / 2 + M / 2 + 1 := by omega
      conv => rhs; rw [e3, Nat.pow_succ]
      rw [Nat.mod_mul_mod]
    · rw [if_neg hb, hsq]
      have e3 : M = M / 2 + M / 2 := by omega
      conv => rhs; rw [e3]
theorem nu_powL (x : Lm) {N : Nat} (hN : N < 2 ^ 256) : nu (powL x N) = nu x ^ N % 57896044618658097711785492504343953926634992332820282019728792003956564819949 := by
  have h := nu_pwS x N hN 256 (Nat.le_refl _)
  rw [Nat.sub_self, Nat.pow_zero, Nat.div_one] at h
  exact h

/-- The inverse. -/
def eInv : Nat := 57896044618658097711785492504343953926634992332820282019728792003956564819947
def eRt : Nat := 7237005577332262213973186563042994240829374041602535252466099000494570602493
theorem eInv_lt : eInv < 2 ^ 256 := by decide
theorem eRt_lt : eRt < 2 ^ 256 := by decide
def invL (x : Lm) : Lm := powL x eInv
theorem invL_ok {x : Lm} (hx : x.ok) : (invL x).ok := powL_ok hx _
theorem nu_invL (x : Lm) : nu (invL x) = nu x ^ eInv % 57896044618658097711785492504343953926634992332820282019728792003956564819949 := nu_powL x eInv_lt
/-- The root's candidate. -/
def v3L (v : Lm) : Lm := mulL (mulL v v) v
def v7L (v : Lm) : Lm := mulL (mulL (v3L v) (v3L v)) v
def candL (u v : Lm) : Lm := mulL (mulL u (v3L v)) (powL (mulL u (v7L v)) eRt)
theorem v3L_ok {v : Lm} (h : v.ok) : (v3L v).ok := mulL_ok (mulL_ok h h) h
theorem v7L_ok {v : Lm} (h : v.ok) : (v7L v).ok := mulL_ok (mulL_ok (v3L_ok h) (v3L_ok h)) h
theorem candL_ok {u v : Lm} (hu : u.ok) (hv : v.ok) : (candL u v).ok := mulL_ok (mulL_ok hu (v3L_ok hv)) (powL_ok (mulL_ok hu (v7L_ok hv)) _)
/-- Does a number fit as the root? -/
def fitB (r u v : Lm) : Bool := decide (nu (mulL (mulL r r) v) = nu u)
def rtL : Lm := ⟨1718705420411056, 234908883556509, 2233514472574048, 2117202627021982, 765476049583133⟩
theorem rtL_ok : rtL.ok := by constructor <;> decide
theorem nu_rtL : nu rtL = 19681161376707505956807079304988542015446066515923890162744021073123829784752 := by decide +kernel
def root1 (u v : Lm) : Lm := if fitB (candL u v) u v then candL u v else mulL (candL u v) rtL
theorem root1_ok {u v : Lm} (hu : u.ok) (hv : v.ok) : (root1 u v).ok := by
  unfold root1
  split
  · exact candL_ok hu hv
  · exact mulL_ok (candL_ok hu hv) rtL_ok
def rootOk (u v : Lm) : Bool := !(decide (nu v = 0)) && fitB (root1 u v) u v
def rootL (u v : Lm) : Lm := if rootOk u v then (if nu (root1 u v) % 2 = 1 then negL (root1 u v) else root1 u v) else zeL
theorem rootL_ok {u v : Lm} (hu : u.ok) (hv : v.ok) : (rootL u v).ok := by
  unfold rootL
  split
  · split
    · exact negL_ok _
    · exact root1_ok hu hv
  · exact zeL_ok

end Go.Proofs.YthpbipebpaeagaaDoor
