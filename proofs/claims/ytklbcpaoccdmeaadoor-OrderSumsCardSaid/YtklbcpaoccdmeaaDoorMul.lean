/- math/bits.Mul64, as this program calls it; a product of two numbers of four words, word by word: plain arithmetic. -/
import Derived.Test.YtklbcpaoccdmeaaDoorCar
import Derived.Shelf.Bits.Mul64
import Derived.Laws.BitsAllLaws
import Derived.Deep.CutRange
import Derived.Deep.CutBlock
import Derived.RegionTactic
import Derived.Lib.Hide
import Derived.IntWalk
namespace Go.Proofs.YtklbcpaoccdmeaaDoor
set_option maxRecDepth 100000
open Go.RowKit

set_option maxHeartbeats 1000000 in
theorem mul64n (x y : Nat) (hx : x < 18446744073709551616) (hy : y < 18446744073709551616) (w : World) :
    Calls Tryd.prog 32 #[.int .u64 (x : Int), .int .u64 (y : Int)] w fun e w' => e = .returned (.tuple #[.int .u64 ((x * y / 18446744073709551616 : Nat) : Int), .int .u64 ((x * y % 18446744073709551616 : Nat) : Int)]) ∧ w' = w := by
  obtain ⟨bd, bt, bw, hhi⟩ := Lib.mul64_hi x y hx hy
  have ba := Lib.half_mul_le (a := x / 4294967296) (b := y / 4294967296) (by omega) (by omega)
  have bb := Lib.half_mul_le (a := x / 4294967296) (b := y % 4294967296) (by omega) (by omega)
  have bc := Lib.half_mul_le (a := x % 4294967296) (b := y / 4294967296) (by omega) (by omega)
  have ba' : x / 4294967296 * (y / 4294967296) < 18446744073709551616 := by omega
  have bb' : x / 4294967296 * (y % 4294967296) < 18446744073709551616 := by omega
  have bc' : x % 4294967296 * (y / 4294967296) < 18446744073709551616 := by omega
  have bh1 : x / 4294967296 * (y / 4294967296) + (x / 4294967296 * (y % 4294967296) + x % 4294967296 * (y % 4294967296) / 4294967296) / 4294967296 < 18446744073709551616 := by omega
  have bh : x / 4294967296 * (y / 4294967296) + (x / 4294967296 * (y % 4294967296) + x % 4294967296 * (y % 4294967296) / 4294967296) / 4294967296 + ((x / 4294967296 * (y % 4294967296) + x % 4294967296 * (y % 4294967296) / 4294967296) % 4294967296 + x % 4294967296 * (y / 4294967296)) / 4294967296 < 18446744073709551616 := by omega
  go_enter Tryd.func32, Tryd.ntmps32
  go_wp2
  simp only [Mul64.maskN x hx, Mul64.maskN y hy, Mul64.divN, Mul64.mulN, Mul64.addN, Mul64.wrapN _ bd, Mul64.wrapN _ bb', Mul64.wrapN _ bt, Mul64.maskN _ bt, Mul64.wrapN _ bc', Mul64.wrapN _ bw, Mul64.wrapN _ ba', Mul64.wrapN _ bh1, Mul64.wrapN _ bh, Mul64.wrapM (x * y)]
  rw [hhi]
  go_ret2
  exact ⟨rfl, rfl⟩

theorem add64z (x y s o : Nat) (hs : s = (x + y) % 18446744073709551616) (ho : o = (x + y) / 18446744073709551616) (w : World) : (callFunc 33 #[.int .u64 (x : Int), .int .u64 (y : Int), .int .u64 0]).run Tryd.prog w =
    .ok (.value (.tuple #[.int .u64 (s : Int), .int .u64 (o : Int)])) w := add64n x y 0 s o (by omega) hs ho w

theorem mid_step (a r q b t : Nat) : a * (r + q * b) * t = a * r * t + a * b * (q * t) := by
  have h : a * (q * b) * t = a * b * (q * t) := by rw [Nat.mul_comm q b, ← Nat.mul_assoc a b q, Nat.mul_assoc (a * b) q t]
  rw [Nat.mul_add, Nat.add_mul, h]
/-- One word of a product. -/
theorem mul_inner {N M V k j c s d : Nat} (hV : V < M64 (k + 4)) (hj : j < 4) (hs : s < 18446744073709551616) (hi : V + c * M64 (k + j) = N % M64 k * M + wd N k * (M % M64 j) * M64 k)
    (hst : s + d * 18446744073709551616 = wd N k * wd M j + wd V (k + j) + c) :
    putw V (k + j) s < M64 (k + 4) ∧ putw V (k + j) s + d * M64 (k + (j + 1)) = N % M64 k * M + wd N k * (M % M64 (j + 1)) * M64 k := by
  refine ⟨putw_lt hV (by omega) hs, ?_⟩
  have h1 := putw_add V (k + j) s
  have e : M64 (k + (j + 1)) = 18446744073709551616 * M64 (k + j) := by rw [← Nat.add_assoc, M64_succ, Nat.mul_comm]
  have e2 : M64 (k + j) = M64 j * M64 k := by rw [M64_add, Nat.mul_comm]
  rw [mod_succ, e]
  have h2 := congrArg (· * M64 (k + j)) hst
  simp only [Nat.add_mul] at h2
  generalize putw V (k + j) s = P at *
  generalize wd V (k + j) = v at *
  generalize wd N k = a at *
  generalize wd M j = b at *
  generalize M % M64 j = r at *
  generalize N % M64 k * M = X at *
  have e5 : a * (r + M64 j * b) * M64 k = a * r * M64 k + a * b * M64 (k + j) := by
    rw [e2]
    exact mid_step a r (M64 j) b (M64 k)
  rw [e5]
  have e4 : d * (18446744073709551616 * M64 (k + j)) = d * 18446744073709551616 * M64 (k + j) := by rw [Nat.mul_assoc]
  rw [e4]
  generalize a * b * M64 (k + j) = A at *
  generalize a * r * M64 k = B at *
  generalize d * 18446744073709551616 * M64 (k + j) = C at *
  generalize s * M64 (k + j) = D at *
  generalize v * M64 (k + j) = E at *
  generalize c * M64 (k + j) = F at *
  omega
theorem mul_outer {N M V k c : Nat} (hV : V < M64 (k + 4)) (hM : M < M64 4) (hi : V + c * M64 (k + 4) = N % M64 k * M + wd N k * (M % M64 4) * M64 k) :
    putw V (k + 4) c = N % M64 (k + 1) * M := by
  have h1 := putw_add V (k + 4) c
  rw [wd_of_lt hV, Nat.zero_mul, Nat.add_zero] at h1
  rw [h1, hi, Nat.mod_eq_of_lt hM, mod_succ, Nat.add_mul]
  rw [show wd N k * M * M64 k = M64 k * wd N k * M by rw [Nat.mul_comm (wd N k * M), Nat.mul_assoc]]
theorem mul_lt {N M k : Nat} (hM : M < M64 4) : N % M64 k * M < M64 (k + 4) := by
  rw [M64_add]
  have h := Nat.mod_lt N (M64_pos k)
  calc N % M64 k * M ≤ N % M64 k * M64 4 := Nat.mul_le_mul_left _ (Nat.le_of_lt hM)
    _ < M64 k * M64 4 := (Nat.mul_lt_mul_right (M64_pos 4)).2 h

end Go.Proofs.YtklbcpaoccdmeaaDoor
