/- One round of a sum, as numbers; and the first bits of a constant. -/
import Derived.Test.YtcdfbcpcgkcojaaDoorStr32
namespace Go.Proofs.YtcdfbcpcgkcojaaDoor
set_option maxRecDepth 100000
open Go.RowKit

/-- A state of eight words. -/
structure S8x32 where
  a : Nat
  b : Nat
  c : Nat
  d : Nat
  e : Nat
  f : Nat
  g : Nat
  h : Nat
def S8x32.ok (s : S8x32) : Prop := s.a < 4294967296 ∧ s.b < 4294967296 ∧ s.c < 4294967296 ∧ s.d < 4294967296 ∧ s.e < 4294967296 ∧ s.f < 4294967296 ∧ s.g < 4294967296 ∧ s.h < 4294967296
def S8x32.list (s : S8x32) : List Nat := [s.a, s.b, s.c, s.d, s.e, s.f, s.g, s.h]
def ch32 (e f g : Nat) : Nat := (e &&& f) ^^^ ((4294967296 - (e + 1)) &&& g)
def maj32 (a b c : Nat) : Nat := (a &&& b) ^^^ (a &&& c) ^^^ (b &&& c)
def t32 (e f g h k x : Nat) : Nat := (h + big3 32 e 6 11 25 + ch32 e f g + k + x) % 4294967296
def ma32 (a b c : Nat) : Nat := (big3 32 a 2 13 22 + maj32 a b c) % 4294967296
def rnd32 (s : S8x32) (k x : Nat) : S8x32 :=
  ⟨(t32 s.e s.f s.g s.h k x + ma32 s.a s.b s.c) % 4294967296, s.a, s.b, s.c, (s.d + t32 s.e s.f s.g s.h k x) % 4294967296, s.e, s.f, s.g⟩
def rns32 (K W : Nat → Nat) : Nat → S8x32 → S8x32
  | 0, s => s
  | n + 1, s => rnd32 (rns32 K W n s) (K n) (W n)
theorem rnd32_ok {s : S8x32} (h : s.ok) (k x : Nat) : (rnd32 s k x).ok := by
  obtain ⟨h1, h2, h3, h4, h5, h6, h7, h8⟩ := h
  exact ⟨Nat.mod_lt _ (by decide), h1, h2, h3, Nat.mod_lt _ (by decide), h5, h6, h7⟩
theorem rns32_ok {s : S8x32} (h : s.ok) (K W : Nat → Nat) : ∀ n, (rns32 K W n s).ok
  | 0 => h
  | n + 1 => rnd32_ok (rns32_ok h K W n) _ _

theorem xor_ones32 {x : Nat} (h : x < 2 ^ 32) : (2 ^ 32 - 1) ^^^ x = 2 ^ 32 - (x + 1) := by
  apply Nat.eq_of_testBit_eq
  intro i
  rw [Nat.testBit_xor, Nat.testBit_two_pow_sub_one, Nat.testBit_two_pow_sub_succ h]
  by_cases hi : i < 32
  · simp [hi]
  · have hx : x.testBit i = false := Nat.testBit_lt_two_pow (Nat.lt_of_lt_of_le h (Nat.pow_le_pow_right (by decide) (Nat.le_of_not_lt hi)))
    simp [hi, hx]
theorem not32 {x : Nat} (h : x < 4294967296) : bits .xor .u32 IntKind.u32.max (x : Int) = ((4294967296 - (x + 1) : Nat) : Int) := by
  have h1 : IntKind.u32.max = ((4294967296 - 1 : Nat) : Int) := by decide +kernel
  rw [h1, u32_xor_nat _ _ (by omega) h]
  congr 1
  exact xor_ones32 h
theorem and32_lt {a b : Nat} (h : a < 4294967296) : a &&& b < 4294967296 := Nat.lt_of_le_of_lt Nat.and_le_left h
theorem xor32_lt {a b : Nat} (h : a < 4294967296) (h' : b < 4294967296) : a ^^^ b < 4294967296 := Nat.xor_lt_two_pow (n := 32) h h'
theorem chs32 {e f g : Nat} (he : e < 4294967296) (hf : f < 4294967296) (hg : g < 4294967296) : bits .xor .u32 (bits .and .u32 (e : Int) (f : Int)) (bits .and .u32 (bits .xor .u32 IntKind.u32.max (e : Int)) (g : Int)) = ((ch32 e f g : Nat) : Int) := by
  rw [not32 he, u32_and_nat _ _ he hf, u32_and_nat _ _ (by omega) hg, u32_xor_nat _ _ (and32_lt he) (and32_lt (by omega))]
  rfl
theorem majs32 {a b c : Nat} (ha : a < 4294967296) (hb : b < 4294967296) (hc : c < 4294967296) : bits .xor .u32 (bits .xor .u32 (bits .and .u32 (a : Int) (b : Int)) (bits .and .u32 (a : Int) (c : Int))) (bits .and .u32 (b : Int) (c : Int)) = ((maj32 a b c : Nat) : Int) := by
  rw [u32_and_nat _ _ ha hb, u32_and_nat _ _ ha hc, u32_and_nat _ _ hb hc, u32_xor_nat _ _ (and32_lt ha) (and32_lt ha), u32_xor_nat _ _ (xor32_lt (and32_lt ha) (and32_lt ha)) (and32_lt hb)]
  rfl
theorem ts32 (h s c k x : Nat) : IntKind.u32.wrap (IntKind.u32.wrap (IntKind.u32.wrap (IntKind.u32.wrap ((h : Int) + s) + c) + k) + x) = (((h + s + c + k + x) % 4294967296 : Nat) : Int) := by
  rw [← Int.natCast_add, wrap32_nat, ← Int.natCast_add, wrap32_nat, ← Int.natCast_add, wrap32_nat, ← Int.natCast_add, wrap32_nat]
  congr 1
  omega
theorem add32 (a b : Nat) : IntKind.u32.wrap ((a : Int) + b) = (((a + b) % 4294967296 : Nat) : Int) := by rw [← Int.natCast_add, wrap32_nat]

set_option maxHeartbeats 400000 in
theorem top32 (c : Nat) (w : World) (hc : c < 18446744073709551616) : Calls Tryd.prog 42 #[.int .u64 c] w fun e w' => e = .returned (.int .u32 ((c / 2 ^ (64 - 32) : Nat) : Int)) ∧ w' = w := by
  go_enter Tryd.func42, Tryd.ntmps42
  go_wp2_with fail
  refine (width32 _).mono ?_
  rintro e w1 ⟨rfl, rfl⟩
  go_wp2_with fail
  go_ret
  exact ⟨by first | rfl | simp, rfl⟩

end Go.Proofs.YtcdfbcpcgkcojaaDoor
