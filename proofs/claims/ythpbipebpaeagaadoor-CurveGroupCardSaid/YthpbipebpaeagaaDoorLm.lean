/- Numbers of five limbs as a whole: what the program's operations make of them. Plain arithmetic. -/
import Derived.Test.YthpbipebpaeagaaDoorCarry
import Derived.Test.YthpbipebpaeagaaDoorFp
namespace Go.Proofs.YthpbipebpaeagaaDoor
open Go.RowKit

/-- Five limbs. -/
structure Lm where
  a : Nat
  b : Nat
  c : Nat
  d : Nat
  e : Nat
/-- As the program holds them. -/
def EL (x : Lm) : List Value := L5 x.a x.b x.c x.d x.e
/-- No limb is 2^52 or more. -/
structure Lm.ok (x : Lm) : Prop where
  a : x.a < 4503599627370496
  b : x.b < 4503599627370496
  c : x.c < 4503599627370496
  d : x.d < 4503599627370496
  e : x.e < 4503599627370496
/-- The number. -/
def nu (x : Lm) : Nat := V5 x.a x.b x.c x.d x.e % 57896044618658097711785492504343953926634992332820282019728792003956564819949
theorem nu_lt (x : Lm) : nu x < 57896044618658097711785492504343953926634992332820282019728792003956564819949 := Nat.mod_lt _ (by decide)
/-- Handed on. -/
def crL (x : Lm) : Lm := ⟨x.a % 2251799813685248 + x.e / 2251799813685248 * 19, x.b % 2251799813685248 + x.a / 2251799813685248, x.c % 2251799813685248 + x.b / 2251799813685248, x.d % 2251799813685248 + x.c / 2251799813685248, x.e % 2251799813685248 + x.d / 2251799813685248⟩
theorem nu_crL (x : Lm) : nu (crL x) = nu x := crr_mod ..
/-- No limb is 2^62 or more. -/
structure Lm.wide (x : Lm) : Prop where
  a : x.a < 4611686018427387904
  b : x.b < 4611686018427387904
  c : x.c < 4611686018427387904
  d : x.d < 4611686018427387904
  e : x.e < 4611686018427387904
theorem crL_ok {x : Lm} (h : x.wide) : (crL x).ok := ⟨crr_lt h.e, crr_lt' h.a, crr_lt' h.b, crr_lt' h.c, crr_lt' h.d⟩

def pAdd (x y : Lm) : Lm := ⟨x.a + y.a, x.b + y.b, x.c + y.c, x.d + y.d, x.e + y.e⟩
def addL (x y : Lm) : Lm := crL (pAdd x y)
theorem pAdd_wide {x y : Lm} (hx : x.ok) (hy : y.ok) : (pAdd x y).wide := by
  obtain ⟨_, _, _, _, _⟩ := hx
  obtain ⟨_, _, _, _, _⟩ := hy
  constructor <;> simp only [pAdd] <;> omega
theorem addL_ok {x y : Lm} (hx : x.ok) (hy : y.ok) : (addL x y).ok := crL_ok (pAdd_wide hx hy)
theorem nu_addL (x y : Lm) : nu (addL x y) = (nu x + nu y) % 57896044618658097711785492504343953926634992332820282019728792003956564819949 := by
  show nu (crL _) = _
  rw [nu_crL]
  show V5 (x.a + y.a) (x.b + y.b) (x.c + y.c) (x.d + y.d) (x.e + y.e) % _ = _
  rw [V5_add, Nat.add_mod]
  rfl

def pSub (x y : Lm) : Lm := ⟨x.a + 9007199254740916 - y.a, x.b + 9007199254740988 - y.b, x.c + 9007199254740988 - y.c, x.d + 9007199254740988 - y.d, x.e + 9007199254740988 - y.e⟩
def subL (x y : Lm) : Lm := crL (pSub x y)
theorem pSub_wide {x y : Lm} (hx : x.ok) : (pSub x y).wide := by
  obtain ⟨_, _, _, _, _⟩ := hx
  constructor <;> simp only [pSub] <;> omega
theorem subL_ok {x y : Lm} (hx : x.ok) : (subL x y).ok := crL_ok (pSub_wide hx)
theorem nu_subL (x : Lm) {y : Lm} (hy : y.ok) : nu (subL x y) = (nu x + (57896044618658097711785492504343953926634992332820282019728792003956564819949 - nu y)) % 57896044618658097711785492504343953926634992332820282019728792003956564819949 := by
  have h := V5_sub x.a x.b x.c x.d x.e y.a y.b y.c y.d y.e hy.a hy.b hy.c hy.d hy.e
  show nu (crL _) = _
  rw [nu_crL]
  show V5 (x.a + 9007199254740916 - y.a) (x.b + 9007199254740988 - y.b) (x.c + 9007199254740988 - y.c) (x.d + 9007199254740988 - y.d) (x.e + 9007199254740988 - y.e) % _ = _
  unfold nu
  generalize V5 (x.a + 9007199254740916 - y.a) _ _ _ _ = A at *
  generalize V5 y.a _ _ _ _ = B at *
  generalize V5 x.a _ _ _ _ = C at *
  omega
def zeL : Lm := ⟨0, 0, 0, 0, 0⟩
theorem zeL_ok : zeL.ok := by constructor <;> decide
def negL (x : Lm) : Lm := subL zeL x
theorem negL_ok (x : Lm) : (negL x).ok := subL_ok zeL_ok
theorem nu_zeL : nu zeL = 0 := by decide
theorem nu_negL {x : Lm} (h : x.ok) : nu (negL x) = (57896044618658097711785492504343953926634992332820282019728792003956564819949 - nu x) % 57896044618658097711785492504343953926634992332820282019728792003956564819949 := by
  show nu (subL zeL x) = _
  rw [nu_subL _ h, nu_zeL, Nat.zero_add]

/-- The sums of products. -/
def pMul (x y : Lm) : Lm :=
  ⟨x.a * y.a + x.b * (19 * y.e) + x.c * (19 * y.d) + x.d * (19 * y.c) + x.e * (19 * y.b),
   x.a * y.b + x.b * y.a + x.c * (19 * y.e) + x.d * (19 * y.d) + x.e * (19 * y.c),
   x.a * y.c + x.b * y.b + x.c * y.a + x.d * (19 * y.e) + x.e * (19 * y.d),
   x.a * y.d + x.b * y.c + x.c * y.b + x.d * y.a + x.e * (19 * y.e),
   x.a * y.e + x.b * y.d + x.c * y.c + x.d * y.b + x.e * y.a⟩
def mulL (x y : Lm) : Lm := crL (crL (pMul x y))
theorem mul19 {u v : Nat} (hu : u < 4503599627370496) (hv : v < 4503599627370496) : u * (19 * v) < 385365782469381738054997774434304 := by
  have h : u * (19 * v) ≤ 4503599627370495 * (19 * 4503599627370495) := Nat.mul_le_mul (by omega) (by omega)
  omega
theorem mul1 {u v : Nat} (hu : u < 4503599627370496) (hv : v < 4503599627370496) : u * v < 20282409603651670423947251286016 := by
  have h : u * v ≤ 4503599627370495 * 4503599627370495 := Nat.mul_le_mul (by omega) (by omega)
  omega
/-- What the sums are below. -/
structure Lm.prod (x : Lm) : Prop where
  a : x.a < 2596148429267413814265248164610048
  b : x.b < 2596148429267413814265248164610048
  c : x.c < 2596148429267413814265248164610048
  d : x.d < 2596148429267413814265248164610048
  e : x.e < 162259276829213363391578010288128
theorem pMul_prod {x y : Lm} (hx : x.ok) (hy : y.ok) : (pMul x y).prod := by
  obtain ⟨a0, a1, a2, a3, a4⟩ := hx
  obtain ⟨b0, b1, b2, b3, b4⟩ := hy
  have ee := fun {u v : Nat} (hu : u < 4503599627370496) (hv : v < 4503599627370496) => mul19 hu hv
  have ff := fun {u v : Nat} (hu : u < 4503599627370496) (hv : v < 4503599627370496) => mul1 hu hv
  constructor
  · simp only [pMul]
    have := mul1 a0 b0; have := mul19 a1 b4; have := mul19 a2 b3; have := mul19 a3 b2; have := mul19 a4 b1
    omega
  · simp only [pMul]
    have := mul1 a0 b1; have := mul1 a1 b0; have := mul19 a2 b4; have := mul19 a3 b3; have := mul19 a4 b2
    omega
  · simp only [pMul]
    have := mul1 a0 b2; have := mul1 a1 b1; have := mul1 a2 b0; have := mul19 a3 b4; have := mul19 a4 b3
    omega
  · simp only [pMul]
    have := mul1 a0 b3; have := mul1 a1 b2; have := mul1 a2 b1; have := mul1 a3 b0; have := mul19 a4 b4
    omega
  · simp only [pMul]
    have := mul1 a0 b4; have := mul1 a1 b3; have := mul1 a2 b2; have := mul1 a3 b1; have := mul1 a4 b0
    omega
theorem crL_wide {x : Lm} (h : x.prod) : (crL x).wide := by
  obtain ⟨_, _, _, _, _⟩ := h
  constructor <;> simp only [crL] <;> omega
theorem mulL_ok {x y : Lm} (hx : x.ok) (hy : y.ok) : (mulL x y).ok := crL_ok (crL_wide (pMul_prod hx hy))
theorem nu_mulL (x y : Lm) : nu (mulL x y) = nu x * nu y % 57896044618658097711785492504343953926634992332820282019728792003956564819949 := by
  show nu (crL (crL _)) = _
  rw [nu_crL, nu_crL]
  show V5 _ _ _ _ _ % _ = _
  refine (V5_mul x.a x.b x.c x.d x.e y.a y.b y.c y.d y.e).trans ?_
  rw [Nat.mul_mod]
  rfl

/-- The least form of a number. -/
def ofN (N : Nat) : Lm := ⟨dg N 0, dg N 1, dg N 2, dg N 3, dg N 4⟩

end Go.Proofs.YthpbipebpaeagaaDoor
