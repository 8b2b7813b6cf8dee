/- Numbers of five limbs of 51 bits, modulo 2^255 - 19: plain arithmetic. Nothing here names a dump. field's wide: limb, over. field.carry. -/
import Derived.Test.YthpbipebpaeagaaDoorRowz
import Derived.Test.YthpbipebpaeagaaDoorRows
import Derived.Laws.BitsAllLaws
import Derived.Laws.Bits64b
import Derived.Deep.CutRange
import Derived.Deep.CutBlock
import Derived.RegionTactic
import Derived.Lib.Hide
import Derived.IntWalk
namespace Go.Proofs.YthpbipebpaeagaaDoor
section
/-- The number of five limbs, over any span. -/
def hn (S a b c d e : Nat) : Nat := a + S * (b + S * (c + S * (d + S * e)))
/-- The number of five limbs. -/
def V5 (a b c d e : Nat) : Nat := hn 2251799813685248 a b c d e

theorem V5_lin (a b c d e : Nat) : V5 a b c d e = a + 2251799813685248 * b + 5070602400912917605986812821504 * c
    + 11417981541647679048466287755595961091061972992 * d + 25711008708143844408671393477458601640355247900524685364822016 * e := by
  unfold V5 hn
  omega

/-- What goes on from limb to limb goes on, and what leaves the last comes back 19 times. -/
theorem crr (a b c d e : Nat) :
    V5 (a % 2251799813685248 + e / 2251799813685248 * 19) (b % 2251799813685248 + a / 2251799813685248) (c % 2251799813685248 + b / 2251799813685248) (d % 2251799813685248 + c / 2251799813685248) (e % 2251799813685248 + d / 2251799813685248) + 57896044618658097711785492504343953926634992332820282019728792003956564819949 * (e / 2251799813685248) = V5 a b c d e := by
  rw [V5_lin, V5_lin]
  omega

theorem crr_mod (a b c d e : Nat) :
    V5 (a % 2251799813685248 + e / 2251799813685248 * 19) (b % 2251799813685248 + a / 2251799813685248) (c % 2251799813685248 + b / 2251799813685248) (d % 2251799813685248 + c / 2251799813685248) (e % 2251799813685248 + d / 2251799813685248) % 57896044618658097711785492504343953926634992332820282019728792003956564819949 = V5 a b c d e % 57896044618658097711785492504343953926634992332820282019728792003956564819949 := by
  rw [← crr a b c d e, Nat.add_mul_mod_self_left]

/-- The product, over any span: what stands five places up comes down. -/
theorem hn_mul (S a0 a1 a2 a3 a4 b0 b1 b2 b3 b4 : Nat) :
    hn S a0 a1 a2 a3 a4 * hn S b0 b1 b2 b3 b4
      = hn S (a0*b0) (a0*b1 + a1*b0) (a0*b2 + a1*b1 + a2*b0) (a0*b3 + a1*b2 + a2*b1 + a3*b0) (a0*b4 + a1*b3 + a2*b2 + a3*b1 + a4*b0)
        + S * (S * (S * (S * S))) * hn S (a1*b4 + a2*b3 + a3*b2 + a4*b1) (a2*b4 + a3*b3 + a4*b2) (a3*b4 + a4*b3) (a4*b4) 0 := by
  unfold hn
  grind

theorem hn_add (S f t0 t1 t2 t3 t4 h0 h1 h2 h3 : Nat) :
    hn S (t0 + f * h0) (t1 + f * h1) (t2 + f * h2) (t3 + f * h3) t4 = hn S t0 t1 t2 t3 t4 + f * hn S h0 h1 h2 h3 0 := by
  unfold hn
  grind

/-- The product. -/
theorem V5_mul (a0 a1 a2 a3 a4 b0 b1 b2 b3 b4 : Nat) :
    V5 (a0*b0 + a1*(19*b4) + a2*(19*b3) + a3*(19*b2) + a4*(19*b1))
       (a0*b1 + a1*b0 + a2*(19*b4) + a3*(19*b3) + a4*(19*b2))
       (a0*b2 + a1*b1 + a2*b0 + a3*(19*b4) + a4*(19*b3))
       (a0*b3 + a1*b2 + a2*b1 + a3*b0 + a4*(19*b4))
       (a0*b4 + a1*b3 + a2*b2 + a3*b1 + a4*b0) % 57896044618658097711785492504343953926634992332820282019728792003956564819949
      = V5 a0 a1 a2 a3 a4 * V5 b0 b1 b2 b3 b4 % 57896044618658097711785492504343953926634992332820282019728792003956564819949 := by
  have e1 := hn_mul 2251799813685248 a0 a1 a2 a3 a4 b0 b1 b2 b3 b4
  have e2 := hn_add 2251799813685248 19 (a0*b0) (a0*b1 + a1*b0) (a0*b2 + a1*b1 + a2*b0) (a0*b3 + a1*b2 + a2*b1 + a3*b0)
    (a0*b4 + a1*b3 + a2*b2 + a3*b1 + a4*b0) (a1*b4 + a2*b3 + a3*b2 + a4*b1) (a2*b4 + a3*b3 + a4*b2) (a3*b4 + a4*b3) (a4*b4)
  have e3 : 2251799813685248 * (2251799813685248 * (2251799813685248 * (2251799813685248 * 2251799813685248))) = 57896044618658097711785492504343953926634992332820282019728792003956564819949 + 19 := by decide
  rw [e3] at e1
  have e4 : V5 (a0*b0 + a1*(19*b4) + a2*(19*b3) + a3*(19*b2) + a4*(19*b1))
       (a0*b1 + a1*b0 + a2*(19*b4) + a3*(19*b3) + a4*(19*b2))
       (a0*b2 + a1*b1 + a2*b0 + a3*(19*b4) + a4*(19*b3))
       (a0*b3 + a1*b2 + a2*b1 + a3*b0 + a4*(19*b4))
       (a0*b4 + a1*b3 + a2*b2 + a3*b1 + a4*b0)
      = hn 2251799813685248 (a0*b0 + 19 * (a1*b4 + a2*b3 + a3*b2 + a4*b1)) (a0*b1 + a1*b0 + 19 * (a2*b4 + a3*b3 + a4*b2)) (a0*b2 + a1*b1 + a2*b0 + 19 * (a3*b4 + a4*b3)) (a0*b3 + a1*b2 + a2*b1 + a3*b0 + 19 * (a4*b4)) (a0*b4 + a1*b3 + a2*b2 + a3*b1 + a4*b0) := by
    unfold V5
    congr 1 <;> simp only [Nat.mul_add, Nat.mul_left_comm _ 19, Nat.add_assoc]
  rw [e4, e2]
  show _ = hn 2251799813685248 a0 a1 a2 a3 a4 * hn 2251799813685248 b0 b1 b2 b3 b4 % 57896044618658097711785492504343953926634992332820282019728792003956564819949
  rw [e1]
  generalize hn 2251799813685248 (a1*b4 + a2*b3 + a3*b2 + a4*b1) _ _ _ _ = h
  generalize hn 2251799813685248 (a0*b0) _ _ _ _ = t
  rw [Nat.add_mul, Nat.add_comm (57896044618658097711785492504343953926634992332820282019728792003956564819949 * h), ← Nat.add_assoc, Nat.add_mul_mod_self_left]

theorem V5_add (a0 a1 a2 a3 a4 b0 b1 b2 b3 b4 : Nat) :
    V5 (a0+b0) (a1+b1) (a2+b2) (a3+b3) (a4+b4) = V5 a0 a1 a2 a3 a4 + V5 b0 b1 b2 b3 b4 := by
  simp only [V5_lin]
  omega

/-- The difference: 4 p more keeps every limb from going below 0. -/
theorem V5_sub (a0 a1 a2 a3 a4 b0 b1 b2 b3 b4 : Nat) (h0 : b0 < 4503599627370496) (h1 : b1 < 4503599627370496) (h2 : b2 < 4503599627370496)
    (h3 : b3 < 4503599627370496) (h4 : b4 < 4503599627370496) :
    V5 (a0 + 9007199254740916 - b0) (a1 + 9007199254740988 - b1) (a2 + 9007199254740988 - b2) (a3 + 9007199254740988 - b3) (a4 + 9007199254740988 - b4)
      + V5 b0 b1 b2 b3 b4 = V5 a0 a1 a2 a3 a4 + 57896044618658097711785492504343953926634992332820282019728792003956564819949 * 4 := by
  simp only [V5_lin]
  omega

/-- Limbs below 2^62 come out below 2^51 + 2^16. -/
theorem crr_lt {a e : Nat} (he : e < 4611686018427387904) : a % 2251799813685248 + e / 2251799813685248 * 19 < 4503599627370496 := by omega
theorem crr_lt' {a b : Nat} (ha : a < 4611686018427387904) : b % 2251799813685248 + a / 2251799813685248 < 4503599627370496 := by omega

/-- The least form: what is carried out of the number and 19 more tells whether p is to be taken off. -/
def o0 (a : Nat) : Nat := (a + 19) / 2251799813685248
def o1 (a b : Nat) : Nat := (b + o0 a) / 2251799813685248
def o2 (a b c : Nat) : Nat := (c + o1 a b) / 2251799813685248
def o3 (a b c d : Nat) : Nat := (d + o2 a b c) / 2251799813685248
def o4 (a b c d e : Nat) : Nat := (e + o3 a b c d) / 2251799813685248

theorem o4_eq (a b c d e : Nat) : o4 a b c d e = (V5 a b c d e + 19) / (57896044618658097711785492504343953926634992332820282019728792003956564819949 + 19) := by
  unfold o4 o3 o2 o1 o0
  rw [V5_lin]
  omega

/-- The five digits of a number. -/
def dg (N : Nat) : Nat → Nat
  | 0 => N % 2251799813685248
  | k + 1 => dg (N / 2251799813685248) k

theorem V5_dg (N : Nat) (h : N < 57896044618658097711785492504343953926634992332820282019728792003956564819949 + 19) : V5 (dg N 0) (dg N 1) (dg N 2) (dg N 3) (dg N 4) = N := by
  rw [V5_lin]
  simp only [dg]
  omega

/-- The digits of five limbs and a number more, one carried into the next. -/
theorem dg_V5 (a b c d e x : Nat) :
    (a + x) % 2251799813685248 = dg (V5 a b c d e + x) 0
    ∧ (b + (a + x) / 2251799813685248) % 2251799813685248 = dg (V5 a b c d e + x) 1
    ∧ (c + (b + (a + x) / 2251799813685248) / 2251799813685248) % 2251799813685248 = dg (V5 a b c d e + x) 2
    ∧ (d + (c + (b + (a + x) / 2251799813685248) / 2251799813685248) / 2251799813685248) % 2251799813685248 = dg (V5 a b c d e + x) 3
    ∧ (e + (d + (c + (b + (a + x) / 2251799813685248) / 2251799813685248) / 2251799813685248) / 2251799813685248) % 2251799813685248 = dg (V5 a b c d e + x) 4 := by
  have h : ∀ N M r : Nat, (N + 2251799813685248 * M + r) / 2251799813685248 = M + (N + r) / 2251799813685248 := by intro N M r; omega
  have h' : ∀ N M r : Nat, (N + 2251799813685248 * M + r) % 2251799813685248 = (N + r) % 2251799813685248 := by intro N M r; omega
  unfold V5 hn
  simp only [dg, h, h', and_self]

/-- Limbs that were handed on once more are less than twice p. -/
theorem least_lt (a b c d e : Nat) (ha : a ≤ 2251799813685248 + 18) (hb : b ≤ 2251799813685248) (hc : c ≤ 2251799813685248) (hd : d ≤ 2251799813685248) (he : e ≤ 2251799813685248) : V5 a b c d e < 2 * 57896044618658097711785492504343953926634992332820282019728792003956564819949 := by
  rw [V5_lin]
  omega

theorem least_val {N : Nat} (h : N < 2 * 57896044618658097711785492504343953926634992332820282019728792003956564819949) : (N + (N + 19) / (57896044618658097711785492504343953926634992332820282019728792003956564819949 + 19) * 19) % (57896044618658097711785492504343953926634992332820282019728792003956564819949 + 19) = N % 57896044618658097711785492504343953926634992332820282019728792003956564819949 := by
  have h1 : N % 57896044618658097711785492504343953926634992332820282019728792003956564819949 = if N < 57896044618658097711785492504343953926634992332820282019728792003956564819949 then N else N - 57896044618658097711785492504343953926634992332820282019728792003956564819949 := by
    split
    · rename_i h2; exact Nat.mod_eq_of_lt h2
    · rename_i h2
      rw [Nat.mod_eq_sub_mod (by omega)]
      exact Nat.mod_eq_of_lt (by omega)
  rw [h1]
  split <;> omega
end

section
set_option maxRecDepth 100000
open Go.RowKit

theorem w64 (n : Int) (h₀ : 0 ≤ n) (h₁ : n < 2 ^ 64) : IntKind.u64.wrap n = n := by rw [IntKind.wrap_u64]; omega
theorem mask51 (l : Nat) (h : l < 18446744073709551616) : bits .and .u64 (l : Int) 2251799813685247 = ((l % 2251799813685248 : Nat) : Int) := by
  have h1 := bits_mask .u64 64 (by decide) w64 51 (by decide) (l : Int) (by omega) (by omega)
  have h2 : ((l % 2251799813685248 : Nat) : Int) = (l : Int) % 2 ^ 51 := by omega
  rw [h2]
  exact h1
theorem or13 (h l : Nat) (hl : l < 18446744073709551616) : bits .or .u64 (IntKind.u64.wrap ((h : Int) * 8192)) ((l : Int) / 2251799813685248)
    = ((h * 8192 % 18446744073709551616 + l / 2251799813685248 : Nat) : Int) := by
  have e1 : IntKind.u64.wrap ((h : Int) * 8192) = ((h * 8192 % 18446744073709551616 : Nat) : Int) := by
    rw [IntKind.wrap_u64]
    omega
  have e2 : (l : Int) / 2251799813685248 = ((l / 2251799813685248 : Nat) : Int) := by omega
  rw [e1, e2, bits_or_u64_nat _ _ (by omega) (by omega)]
  have e3 : h * 8192 % 18446744073709551616 = 2 ^ 13 * (h % 2251799813685248) := by omega
  rw [e3, ← Nat.two_pow_add_eq_or_of_lt (by omega)]

set_option maxHeartbeats 1600000 in
theorem limb_any (h l : Nat) (hl : l < 18446744073709551616) (w : World) :
    Calls Tryd.prog 69 #[.agg #[.int .u64 (h : Int), .int .u64 (l : Int)]] w fun e w' => e = .returned (.int .u64 ((l % 2251799813685248 : Nat) : Int)) ∧ Below w.heap.size w w' := by
  go_enter Tryd.func69, Tryd.ntmps69
  go_wp2
  go_ret
  refine ⟨?_, (Below.refl _ _).alloc (Nat.le_refl _) _⟩
  rw [mask51 l hl]
  rfl

set_option maxHeartbeats 1600000 in
theorem over_any (h l : Nat) (hl : l < 18446744073709551616) (w : World) :
    Calls Tryd.prog 70 #[.agg #[.int .u64 (h : Int), .int .u64 (l : Int)]] w fun e w' => e = .returned (.int .u64 (((h * 8192) % 18446744073709551616 + l / 2251799813685248 : Nat) : Int)) ∧ Below w.heap.size w w' := by
  go_enter Tryd.func70, Tryd.ntmps70
  go_wp2
  go_ret
  refine ⟨?_, (Below.refl _ _).alloc (Nat.le_refl _) _⟩
  rw [or13 h l hl]
  rfl
end

section
set_option maxRecDepth 100000
open Go.RowKit

/-- Five limbs, as the program holds them. -/
def L5 (a b c d e : Nat) : List Value := [.int .u64 (a : Int), .int .u64 (b : Int), .int .u64 (c : Int), .int .u64 (d : Int), .int .u64 (e : Int)]

theorem below2 (w : World) (X Y : Obj) : Below w.heap.size w ((w.alloc X).alloc Y) := ((Below.refl _ _).alloc (Nat.le_refl _) _).alloc (by simp) _
theorem crr19 (a e : Nat) (he : e < 4611686018427387904) :
    IntKind.u64.wrap (((a % 2251799813685248 : Nat) : Int) + (e : Int) / 2251799813685248 * 19) = ((a % 2251799813685248 + e / 2251799813685248 * 19 : Nat) : Int) := by
  simp only [IntKind.wrap_u64]
  omega
theorem crr1 (a e : Nat) (he : e < 4611686018427387904) :
    IntKind.u64.wrap (((a % 2251799813685248 : Nat) : Int) + (e : Int) / 2251799813685248) = ((a % 2251799813685248 + e / 2251799813685248 : Nat) : Int) := by
  simp only [IntKind.wrap_u64]
  omega

set_option maxHeartbeats 1600000 in
theorem carry_any (a b c d e : Nat) (ha : a < 4611686018427387904) (hb : b < 4611686018427387904) (hc : c < 4611686018427387904) (hd : d < 4611686018427387904) (he : e < 4611686018427387904) (w : World) :
    Calls Tryd.prog 64 #[.agg (L5 a b c d e).toArray] w fun r w' => r = .returned (.agg (L5 (a % 2251799813685248 + e / 2251799813685248 * 19) (b % 2251799813685248 + a / 2251799813685248)
      (c % 2251799813685248 + b / 2251799813685248) (d % 2251799813685248 + c / 2251799813685248) (e % 2251799813685248 + d / 2251799813685248)).toArray) ∧ Below w.heap.size w w' := by
  simp only [L5]
  go_enter Tryd.func64, Tryd.ntmps64
  go_wp2
  refine bodyPost_ret (results_cell_row (by rfl) _ _ (w.heap.size + 1) _ _ _ _ (by rfl) (heap_alloc2_new _ _ _) Tryd.underlying24 rfl (by kernel_rfl)) rfl ?_
  refine ⟨?_, below2 _ _ _⟩
  rw [mask51 a (by omega), mask51 b (by omega), mask51 c (by omega), mask51 d (by omega), mask51 e (by omega), crr19 a e he, crr1 b a ha, crr1 c b hb, crr1 d c hc, crr1 e d hd]
end

end Go.Proofs.YthpbipebpaeagaaDoor
