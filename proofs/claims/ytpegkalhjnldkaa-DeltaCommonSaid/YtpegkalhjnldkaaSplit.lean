/- The number that bytes begin with is found as the mathematics of Num says; for any bytes. -/
import Derived.Test.YtpegkalhjnldkaaPack
import Derived.Test.YtpegkalhjnldkaaNum
namespace Go.Proofs.Ytpegkalhjnldkaa
open Go.RowKit

theorem or_digit {k : List UInt8} {j : Nat} {x : UInt8} (hx : k[j]? = some x) (hj : j ≤ 9) (h9 : j = 9 → x.toNat ≤ 1) :
    bits .or .u64 ((dig (k.take j) : Nat) : Int) (IntKind.u64.wrap (IntKind.u64.wrap (bits .and .u8 ((x.toNat : Nat) : Int) 127) * 2 ^ (7 * j))) = ((dig (k.take j) + x.toNat % 128 * 128 ^ j : Nat) : Int) := by
  have hl := len_take hx
  have hd := dig_lt (k.take j)
  have hxl : x.toNat < 256 := x.toNat_lt
  have hp : (128 : Nat) ^ j = 2 ^ (7 * j) := by rw [Nat.pow_mul]
  rw [hl, hp] at hd
  have h1 := u8_and_nat x.toNat 127 hxl (by omega)
  rw [show ((127 : Nat) : Int) = 127 from rfl, nat_mask7] at h1
  rw [h1, IntKind.wrap_u64, IntKind.wrap_u64]
  have h2 : (((x.toNat % 128 : Nat) : Int) % 18446744073709551616) = ((x.toNat % 128 : Nat) : Int) := by omega
  have h3 : ((x.toNat % 128 : Nat) : Int) * 2 ^ (7 * j) = ((x.toNat % 128 * 2 ^ (7 * j) : Nat) : Int) := by push_cast; rfl
  have h4 : x.toNat % 128 * 2 ^ (7 * j) < 9223372036854775809 := by
    by_cases e : j = 9
    · have := h9 e
      have h5 : x.toNat % 128 * 2 ^ (7 * j) ≤ 1 * 2 ^ (7 * j) := Nat.mul_le_mul_right _ (by omega)
      rw [e] at h5 ⊢
      omega
    · have h5 : x.toNat % 128 * 2 ^ (7 * j) ≤ 127 * 2 ^ (7 * 8) := Nat.mul_le_mul (by omega) (Nat.pow_le_pow_right (by omega) (by omega))
      omega
  have h6 : dig (k.take j) < 18446744073709551616 := by
    have h5 : 2 ^ (7 * j) ≤ 2 ^ (7 * 9) := Nat.pow_le_pow_right (by omega) (by omega)
    omega
  rw [h2, h3]
  have h7 : ((x.toNat % 128 * 2 ^ (7 * j) : Nat) : Int) % 18446744073709551616 = ((x.toNat % 128 * 2 ^ (7 * j) : Nat) : Int) := by omega
  rw [h7, u64_or_nat _ _ h6 (by omega), Nat.or_comm, nat_join (7 * j) _ _ (Nat.mul_mod_left _ _) hd, hp, Nat.add_comm]

theorem and128 : ∀ x, x < 256 → x &&& 128 = if x < 128 then 0 else 128 := by decide +kernel
theorem top_bit (x : UInt8) : bits .and .u8 ((x.toNat : Nat) : Int) 128 = ((if x.toNat < 128 then 0 else 128 : Nat) : Int) := by
  have hxl : x.toNat < 256 := x.toNat_lt
  have h1 := u8_and_nat x.toNat 128 hxl (by omega)
  rw [show ((128 : Nat) : Int) = 128 from rfl] at h1
  rw [h1, and128 _ hxl]
theorem top_off {x : UInt8} (h : x.toNat < 128) : (bits .and .u8 ((x.toNat : Nat) : Int) 128 != 0) = false := by rw [top_bit, if_pos h]; rfl
theorem top_on {x : UInt8} (h : ¬ x.toNat < 128) : (bits .and .u8 ((x.toNat : Nat) : Int) 128 != 0) = true := by rw [top_bit, if_neg h]; rfl

/-- What split comes to. -/
def SplitOf (k : List UInt8) (w : World) (e : Ending) (w' : World) : Prop :=
  e = .returned (.tuple #[.int .u64 ((dec k).getD (0, 0)).1, .int .i64 ((dec k).getD (0, 0)).2]) ∧ w = w'
theorem split_none {k : List UInt8} {w : World} (h : dec k = none) : SplitOf k w (.returned (.tuple #[.int .u64 0, .int .i64 0])) w := by unfold SplitOf; rw [h]; exact ⟨rfl, rfl⟩
theorem split_some {k : List UInt8} {w : World} {j m : Nat} {y : Int} (h : dec k = some (m, j + 1)) (hy : y = m) : SplitOf k w (.returned (.tuple #[.int .u64 y, .int .i64 ((j : Int) + 1)])) w := by unfold SplitOf; rw [h, hy]; exact ⟨rfl, rfl⟩

end Go.Proofs.Ytpegkalhjnldkaa
