/- What a reader's methods for bytes, raw bytes, texts and signed numbers come to, whatever its bytes are. -/
import Derived.Test.YtpegkalhjnldkaaReadT
namespace Go.Proofs.Ytpegkalhjnldkaa
set_option maxRecDepth 100000
open Go.RowKit

section
variable {w w1 w' : World} {g : Nat} {A : Option Addr} {c : Nat} {F : Nat → Prop} {k x : List UInt8} {p : Nat} {d : Int} {e : Ending}
end

/-- The signed number for which one stands. -/
def unzig (n : Nat) : Int := if n % 2 = 1 then -((n / 2 : Nat) : Int) - 1 else ((n / 2 : Nat) : Int)
theorem unzig_zig (n : Int) : unzig (zig n) = n := by unfold unzig zig; split <;> split <;> omega

theorem and_one64 {n : Nat} (h : n < 18446744073709551616) : bits .and .u64 (n : Int) 1 = ((n % 2 : Nat) : Int) := by
  have h1 := u64_and_nat n 1 h (by omega)
  rw [nat_mask1] at h1
  exact h1
theorem unfold_odd {n : Nat} (h : n < 18446744073709551616) (h2 : n % 2 = 1) : wrap64 (bits .xor .u64 IntKind.u64.max ((n : Int) / 2)) = unzig n := by
  rw [show ((n : Int) / 2) = ((n / 2 : Nat) : Int) from by omega, not64 (by omega)]
  unfold unzig wrap64
  rw [if_pos h2]
  omega

/-- What reading a signed number comes to. -/
def rint (k : List UInt8) (p : Nat) : Int × Nat × Int := (unzig (rnum k p 18446744073709551615).1, (rnum k p 18446744073709551615).2)

theorem rnum_lt (k : List UInt8) (p most : Nat) : (rnum k p most).1 < 18446744073709551616 := by
  unfold rnum
  cases hd : dec (k.drop p) with
  | none => show 0 < _; omega
  | some r =>
    obtain ⟨m, s⟩ := r
    have := (enc_dec hd).1
    simp only []
    split
    · show 0 < _; omega
    · exact this

end Go.Proofs.Ytpegkalhjnldkaa
