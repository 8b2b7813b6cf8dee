/- One round of a sum, as numbers; and the first bits of a constant. -/
import Derived.Test.YtcdfbcpcgkcojaaDoorStr64
namespace Go.Proofs.YtcdfbcpcgkcojaaDoor
set_option maxRecDepth 100000
open Go.RowKit

/-- A state of eight words. -/
structure S8x64 where
  a : Nat
  b : Nat
  c : Nat
  d : Nat
  e : Nat
  f : Nat
  g : Nat
  h : Nat
def S8x64.ok (s : S8x64) : Prop := s.a < 18446744073709551616 ∧ s.b < 18446744073709551616 ∧ s.c < 18446744073709551616 ∧ s.d < 18446744073709551616 ∧ s.e < 18446744073709551616 ∧ s.f < 18446744073709551616 ∧ s.g < 18446744073709551616 ∧ s.h < 18446744073709551616
def S8x64.list (s : S8x64) : List Nat := [s.a, s.b, s.c, s.d, s.e, s.f, s.g, s.h]
def ch64 (e f g : Nat) : Nat := (e &&& f) ^^^ ((18446744073709551616 - (e + 1)) &&& g)
def maj64 (a b c : Nat) : Nat := (a &&& b) ^^^ (a &&& c) ^^^ (b &&& c)
def t64 (e f g h k x : Nat) : Nat := (h + big3 64 e 14 18 41 + ch64 e f g + k + x) % 18446744073709551616
def ma64 (a b c : Nat) : Nat := (big3 64 a 28 34 39 + maj64 a b c) % 18446744073709551616
def rnd64 (s : S8x64) (k x : Nat) : S8x64 :=
  ⟨(t64 s.e s.f s.g s.h k x + ma64 s.a s.b s.c) % 18446744073709551616, s.a, s.b, s.c, (s.d + t64 s.e s.f s.g s.h k x) % 18446744073709551616, s.e, s.f, s.g⟩
def rns64 (K W : Nat → Nat) : Nat → S8x64 → S8x64
  | 0, s => s
  | n + 1, s => rnd64 (rns64 K W n s) (K n) (W n)
theorem rnd64_ok {s : S8x64} (h : s.ok) (k x : Nat) : (rnd64 s k x).ok := by
  obtain ⟨h1, h2, h3, h4, h5, h6, h7, h8⟩ := h
  exact ⟨Nat.mod_lt _ (by decide), h1, h2, h3, Nat.mod_lt _ (by decide), h5, h6, h7⟩
theorem rns64_ok {s : S8x64} (h : s.ok) (K W : Nat → Nat) : ∀ n, (rns64 K W n s).ok
  | 0 => h
  | n + 1 => rnd64_ok (rns64_ok h K W n) _ _

theorem xor_ones64 {x : Nat} (h : x < 2 ^ 64) : (2 ^ 64 - 1) ^^^ x = 2 ^ 64 - (x + 1) := by
  apply Nat.eq_of_testBit_eq
  intro i
  rw [Nat.testBit_xor, Nat.testBit_two_pow_sub_one, Nat.testBit_two_pow_sub_succ h]
  by_cases hi : i < 64
  · simp [hi]
  · have hx : x.testBit i = false := Nat.testBit_lt_two_pow (Nat.lt_of_lt_of_le h (Nat.pow_le_pow_right (by decide) (Nat.le_of_not_lt hi)))
    simp [hi, hx]
theorem not64 {x : Nat} (h : x < 18446744073709551616) : bits .xor .u64 IntKind.u64.max (x : Int) = ((18446744073709551616 - (x + 1) : Nat) : Int) := by
  have h1 : IntKind.u64.max = ((18446744073709551616 - 1 : Nat) : Int) := by decide +kernel
  rw [h1, u64_xor_nat _ _ (by omega) h]
  congr 1
  exact xor_ones64 h
theorem and64_lt {a b : Nat} (h : a < 18446744073709551616) : a &&& b < 18446744073709551616 := Nat.lt_of_le_of_lt Nat.and_le_left h
theorem xor64_lt {a b : Nat} (h : a < 18446744073709551616) (h' : b < 18446744073709551616) : a ^^^ b < 18446744073709551616 := Nat.xor_lt_two_pow (n := 64) h h'
theorem chs64 {e f g : Nat} (he : e < 18446744073709551616) (hf : f < 18446744073709551616) (hg : g < 18446744073709551616) : bits .xor .u64 (bits .and .u64 (e : Int) (f : Int)) (bits .and .u64 (bits .xor .u64 IntKind.u64.max (e : Int)) (g : Int)) = ((ch64 e f g : Nat) : Int) := by
  rw [not64 he, u64_and_nat _ _ he hf, u64_and_nat _ _ (by omega) hg, u64_xor_nat _ _ (and64_lt he) (and64_lt (by omega))]
  rfl
theorem majs64 {a b c : Nat} (ha : a < 18446744073709551616) (hb : b < 18446744073709551616) (hc : c < 18446744073709551616) : bits .xor .u64 (bits .xor .u64 (bits .and .u64 (a : Int) (b : Int)) (bits .and .u64 (a : Int) (c : Int))) (bits .and .u64 (b : Int) (c : Int)) = ((maj64 a b c : Nat) : Int) := by
  rw [u64_and_nat _ _ ha hb, u64_and_nat _ _ ha hc, u64_and_nat _ _ hb hc, u64_xor_nat _ _ (and64_lt ha) (and64_lt ha), u64_xor_nat _ _ (xor64_lt (and64_lt ha) (and64_lt ha)) (and64_lt hb)]
  rfl
theorem ts64 (h s c k x : Nat) : IntKind.u64.wrap (IntKind.u64.wrap (IntKind.u64.wrap (IntKind.u64.wrap ((h : Int) + s) + c) + k) + x) = (((h + s + c + k + x) % 18446744073709551616 : Nat) : Int) := by
  rw [← Int.natCast_add, wrap64_nat, ← Int.natCast_add, wrap64_nat, ← Int.natCast_add, wrap64_nat, ← Int.natCast_add, wrap64_nat]
  congr 1
  omega
theorem add64 (a b : Nat) : IntKind.u64.wrap ((a : Int) + b) = (((a + b) % 18446744073709551616 : Nat) : Int) := by rw [← Int.natCast_add, wrap64_nat]

set_option maxHeartbeats 400000 in
theorem top64 (c : Nat) (w : World) (_hc : c < 18446744073709551616) : Calls Tryd.prog 36 #[.int .u64 c] w fun e w' => e = .returned (.int .u64 ((c / 2 ^ (64 - 64) : Nat) : Int)) ∧ w' = w := by
  go_enter Tryd.func36, Tryd.ntmps36
  go_wp2_with fail
  refine (width64 _).mono ?_
  rintro e w1 ⟨rfl, rfl⟩
  go_wp2_with fail
  go_ret
  exact ⟨by first | rfl | simp, rfl⟩

end Go.Proofs.YtcdfbcpcgkcojaaDoor
