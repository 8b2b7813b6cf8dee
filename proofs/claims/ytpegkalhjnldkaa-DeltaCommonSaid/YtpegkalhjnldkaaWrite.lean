/- What each call of a writer leaves: the bytes of the field behind what was written; for rows of up to 2^47 bytes. -/
import Derived.Test.YtpegkalhjnldkaaPack
import Derived.Test.YtpegkalhjnldkaaNum
namespace Go.Proofs.Ytpegkalhjnldkaa
open Go.RowKit

theorem or128 : ∀ x, x < 256 → x ||| 128 = x % 128 + 128 := by decide +kernel
theorem or_goes (m : Nat) : bits .or .u8 ((m : Int) % 256) 128 = (((UInt8.ofNat (m % 128 + 128)).toNat : Nat) : Int) := by
  have h1 : (m : Int) % 256 = ((m % 256 : Nat) : Int) := by omega
  rw [h1]
  have h2 := u8_or_nat (m % 256) 128 (by omega) (by omega)
  rw [show ((128 : Nat) : Int) = 128 from rfl] at h2
  rw [h2, or128 _ (by omega), toNat_low (by omega)]
  congr 2
  omega
theorem low_last {m : Nat} (h : m < 128) : [Value.int .u8 (m : Int)] = Bs [UInt8.ofNat m] := by simp only [Bs, List.map_cons, List.map_nil]; rw [toNat_low (by omega)]

theorem big_goes (m : Nat) : [Value.int .u8 (bits .or .u8 ((m : Int) % 256) 128)] = Bs [UInt8.ofNat (m % 128 + 128)] := by rw [or_goes]; rfl

/-- The number that stands for a signed one. -/
def zig (n : Int) : Nat := if n < 0 then (-2 * n - 1).toNat else (2 * n).toNat

theorem xor_ones {x : Nat} (h : x < 2 ^ 64) : (2 ^ 64 - 1) ^^^ x = 2 ^ 64 - (x + 1) := by
  apply Nat.eq_of_testBit_eq
  intro i
  rw [Nat.testBit_xor, Nat.testBit_two_pow_sub_one, Nat.testBit_two_pow_sub_succ h]
  by_cases hi : i < 64
  · simp [hi]
  · have : x.testBit i = false := Nat.testBit_lt_two_pow (Nat.lt_of_lt_of_le h (Nat.pow_le_pow_right (by omega) (by omega)))
    simp [hi, this]
theorem not64 {x : Nat} (h : x < 2 ^ 64) : bits .xor .u64 IntKind.u64.max (x : Int) = ((2 ^ 64 - (x + 1) : Nat) : Int) := by
  have h1 : IntKind.u64.max = ((2 ^ 64 - 1 : Nat) : Int) := rfl
  rw [h1, u64_xor_nat (2 ^ 64 - 1) x (by omega) (by omega), xor_ones h]
theorem fold_below {n : Int} (h1 : -9223372036854775808 ≤ n) (h : n < 0) : bits .xor .u64 IntKind.u64.max (IntKind.u64.wrap (IntKind.u64.wrap n * 2)) = zig n := by
  rw [IntKind.wrap_u64, IntKind.wrap_u64]
  have e : (n % 18446744073709551616 * 2 % 18446744073709551616 : Int) = ((2 * n + 18446744073709551616).toNat : Int) := by omega
  rw [e, not64 (by omega)]
  unfold zig
  rw [if_pos h]
  omega

theorem zig_lt {n : Int} (h1 : -9223372036854775808 ≤ n) (h2 : n ≤ 9223372036854775807) : zig n < 18446744073709551616 := by unfold zig; split <;> omega

end Go.Proofs.Ytpegkalhjnldkaa
