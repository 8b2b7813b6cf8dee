/- Division bit by bit, by the group's order: plain arithmetic. -/
import Derived.Test.YtklbcpaoccdmeaaDoorCar
import Derived.Laws.BitsAllLaws
import Derived.Deep.CutRange
import Derived.Deep.CutBlock
import Derived.RegionTactic
import Derived.Lib.Hide
import Derived.IntWalk
namespace Go.Proofs.YtklbcpaoccdmeaaDoor
set_option maxRecDepth 100000
open Go.RowKit

/-- The order of the group. -/
def qq : Nat := 7237005577332262213973186563042994240857116359379907606001950938285454250989
theorem qq_pos : 0 < qq := by decide
theorem qq_lt : qq < M64 4 := by decide +kernel
theorem wds_qq : wds qq = [6346243789798364141, 1503914060200516822, 0, 1152921504606846976, 0, 0, 0, 0] := by decide +kernel
theorem bit_div' (N i : Nat) : N / 2 ^ i = N / 2 ^ (i + 1) + N / 2 ^ (i + 1) + N / 2 ^ i % 2 := by
  rw [Nat.pow_succ, ← Nat.div_div_eq_div_mul]
  omega
theorem rest_step {x b q : Nat} (hb : b < 2) : (x + x + b) % q = if x % q + x % q + b < q then x % q + x % q + b else x % q + x % q + b - q := by
  by_cases hq : q = 0
  · subst hq; simp
  · have h := Nat.mod_add_div x q
    have hl := Nat.mod_lt x (Nat.pos_of_ne_zero hq)
    have e : x + x + b = x % q + x % q + b + q * (x / q + x / q) := by
      rw [Nat.mul_add]
      omega
    rw [e, Nat.add_mul_mod_self_left]
    by_cases h1 : x % q + x % q + b < q
    · rw [if_pos h1, Nat.mod_eq_of_lt h1]
    · rw [if_neg h1, Nat.mod_eq_sub_mod (by omega), Nat.mod_eq_of_lt (by omega)]
theorem wd_bit (N i : Nat) : wd N (i / 64) / 2 ^ (i % 64) % 2 = N / 2 ^ i % 2 := by
  unfold wd
  have e : (18446744073709551616 : Nat) = 2 ^ (i % 64) * (2 * 2 ^ (63 - i % 64)) := by
    rw [show (2 : Nat) * 2 ^ (63 - i % 64) = 2 ^ (1 + (63 - i % 64)) by rw [Nat.pow_add], ← Nat.pow_add, show i % 64 + (1 + (63 - i % 64)) = 64 by omega]
  rw [e, Nat.mod_mul_right_div_self, Nat.mod_mul_right_mod, Nat.div_div_eq_div_mul]
  congr 2
  show 2 ^ (64 * (i / 64)) * 2 ^ (i % 64) = _
  rw [← Nat.pow_add]
  congr 1
  omega
theorem even_or (r b : Nat) (hb : b < 2) : wd (r + r) 0 ||| b = wd (r + r) 0 + b ∧ wd (r + r) 0 + b < 18446744073709551616 ∧ wd (r + r + b) 0 = wd (r + r) 0 + b := by
  have e0 : ∀ x, wd x 0 = x % 18446744073709551616 := fun x => by
    unfold wd
    rw [show M64 0 = 1 from rfl, Nat.div_one]
  rw [e0, e0]
  have e : (r + r) % 18446744073709551616 = 2 ^ 1 * ((r + r) % 18446744073709551616 / 2) := by omega
  refine ⟨?_, by omega, by omega⟩
  rw [e]
  exact (Nat.two_pow_add_eq_or_of_lt (i := 1) (by omega) _).symm
theorem wd_even (r b : Nat) (hb : b < 2) {j : Nat} (hj : 0 < j) : wd (r + r + b) j = wd (r + r) j := by
  unfold wd
  have e : M64 j = 2 * 2 ^ (64 * j - 1) := by
    show 2 ^ (64 * j) = _
    rw [show (2 : Nat) * 2 ^ (64 * j - 1) = 2 ^ (1 + (64 * j - 1)) by rw [Nat.pow_add]]
    congr 1
    omega
  have h2 : (r + r + b) / 2 = (r + r) / 2 := by omega
  rw [e, ← Nat.div_div_eq_div_mul, ← Nat.div_div_eq_div_mul, h2]
theorem Nm_bit (r b : Nat) (hb : b < 2) : (Nm (r + r)).set 0 (.int .u64 ((wd (r + r) 0 ||| b : Nat) : Int)) = Nm (r + r + b) := by
  have h := even_or r b hb
  refine Nm_ext _ (by rw [List.length_set, Nm_length]) fun j hj => ?_
  rw [List.getElem?_set]
  by_cases e : j = 0
  · subst e; rw [if_pos rfl, if_pos (by rw [Nm_length]; exact hj), h.1, h.2.2]
  · rw [if_neg (fun h => e h.symm), Nm_get _ hj, wd_even r b hb (by omega)]
/-- A number without its lowest bits. -/
def shr (N k : Nat) : Nat := N / 2 ^ k
theorem shr_zero (N : Nat) : shr N 0 = N := by unfold shr; rw [Nat.pow_zero, Nat.div_one]
theorem div_top {N q : Nat} (h : N < M64 8) (k : Nat) (hk : k = 64 * 8) : shr N k % q = 0 := by
  unfold M64 at h
  rw [← hk] at h
  unfold shr
  rw [Nat.div_eq_of_lt h, Nat.zero_mod]
theorem bit_div (N i : Nat) : shr N i = shr N (i + 1) + shr N (i + 1) + shr N i % 2 := bit_div' N i
theorem M64_48 : M64 4 + M64 4 + M64 4 ≤ M64 8 := by
  have h5 := M64_succ 4
  have h8 := M64_mono (show 4 + 1 ≤ 8 by omega)
  generalize M64 8 = a at *
  generalize M64 (4 + 1) = b at *
  omega
theorem Nm_over (x : Nat) : Nm (x + M64 8) = Nm x := by
  refine Nm_ext _ rfl fun j hj => ?_
  rw [Nm_get _ hj]
  have := wd_add_high x 1 j 8 hj
  rw [Nat.one_mul] at this
  rw [this]

end Go.Proofs.YtklbcpaoccdmeaaDoor
