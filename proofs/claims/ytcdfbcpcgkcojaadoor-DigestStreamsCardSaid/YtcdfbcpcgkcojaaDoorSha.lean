/- The document's turns and sums of words, as numbers. -/
import Derived.Laws.BitsAllLaws
namespace Go.Proofs.YtcdfbcpcgkcojaaDoor

/-- Turned right. -/
def rot (b x n : Nat) : Nat := x / 2 ^ n ||| x * 2 ^ (b - n) % 2 ^ b
/-- Three turns; two turns, and a shift. -/
def big3 (b x i j k : Nat) : Nat := rot b x i ^^^ rot b x j ^^^ rot b x k
def sml3 (b x i j k : Nat) : Nat := rot b x i ^^^ rot b x j ^^^ x / 2 ^ k
theorem rot_lt {b x n : Nat} (hx : x < 2 ^ b) : rot b x n < 2 ^ b := Nat.or_lt_two_pow (Nat.lt_of_le_of_lt (Nat.div_le_self _ _) hx) (Nat.mod_lt _ (Nat.two_pow_pos _))
theorem big3_lt {b x i j k : Nat} (hx : x < 2 ^ b) : big3 b x i j k < 2 ^ b := Nat.xor_lt_two_pow (Nat.xor_lt_two_pow (rot_lt hx) (rot_lt hx)) (rot_lt hx)
theorem sml3_lt {b x i j k : Nat} (hx : x < 2 ^ b) : sml3 b x i j k < 2 ^ b := Nat.xor_lt_two_pow (Nat.xor_lt_two_pow (rot_lt hx) (rot_lt hx)) (Nat.lt_of_le_of_lt (Nat.div_le_self _ _) hx)
theorem wrap32_nat (x : Nat) : IntKind.u32.wrap (x : Int) = ((x % 4294967296 : Nat) : Int) := by rw [IntKind.wrap_u32']; omega
theorem wrap64_nat (x : Nat) : IntKind.u64.wrap (x : Int) = ((x % 18446744073709551616 : Nat) : Int) := by rw [IntKind.wrap_u64]; omega
theorem rot32 (x n : Nat) (hx : x < 4294967296) : bits .or .u32 ((x : Int) / 2 ^ n) (IntKind.u32.wrap ((x : Int) * 2 ^ (32 - n))) = ((rot 32 x n : Nat) : Int) := by
  have h1 : (x : Int) / 2 ^ n = ((x / 2 ^ n : Nat) : Int) := by push_cast; rfl
  have h2 : (x : Int) * 2 ^ (32 - n) = ((x * 2 ^ (32 - n) : Nat) : Int) := by push_cast; rfl
  rw [h1, h2, wrap32_nat, u32_or_nat _ _ (Nat.lt_of_le_of_lt (Nat.div_le_self _ _) hx) (Nat.mod_lt _ (by decide))]
  rfl
theorem rot64 (x n : Nat) (hx : x < 18446744073709551616) : bits .or .u64 ((x : Int) / 2 ^ n) (IntKind.u64.wrap ((x : Int) * 2 ^ (64 - n))) = ((rot 64 x n : Nat) : Int) := by
  have h1 : (x : Int) / 2 ^ n = ((x / 2 ^ n : Nat) : Int) := by push_cast; rfl
  have h2 : (x : Int) * 2 ^ (64 - n) = ((x * 2 ^ (64 - n) : Nat) : Int) := by push_cast; rfl
  rw [h1, h2, wrap64_nat, u64_or_nat _ _ (Nat.lt_of_le_of_lt (Nat.div_le_self _ _) hx) (Nat.mod_lt _ (by decide))]
  rfl
end Go.Proofs.YtcdfbcpcgkcojaaDoor
