/- math/bits.Add64, Mul64, as this program calls them (as in ord); field's wide.plus. field.Small. -/
import Derived.Test.YthpbipebpaeagaaDoorCarry
import Derived.Shelf.Spec.BitsCarry
import Derived.Shelf.Bits.Mul64
namespace Go.Proofs.YthpbipebpaeagaaDoor
section
set_option maxRecDepth 100000
open Go.RowKit

theorem add64n (x y c s o : Nat) (hc : c ≤ 1) (hs : s = (x + y + c) % 18446744073709551616) (ho : o = (x + y + c) / 18446744073709551616) (w : World) : (callFunc 85 #[.int .u64 (x : Int), .int .u64 (y : Int), .int .u64 (c : Int)]).run Tryd.prog w =
    .ok (.value (.tuple #[.int .u64 (s : Int), .int .u64 (o : Int)])) w := by
  subst hs ho
  rw [run_callFunc_extern Tryd.func85 (by kernel_rfl) (by kernel_rfl) (by kernel_rfl) (e := add64Entry) (by kernel_rfl), run_add64 x y c (by omega) (by omega) (by omega) (by omega)]
  simp only [Result.andThen]
  congr 5 <;> omega
set_option maxHeartbeats 1000000 in
theorem mul64n (x y : Nat) (hx : x < 18446744073709551616) (hy : y < 18446744073709551616) (w : World) :
    Calls Tryd.prog 84 #[.int .u64 (x : Int), .int .u64 (y : Int)] w fun e w' => e = .returned (.tuple #[.int .u64 ((x * y / 18446744073709551616 : Nat) : Int), .int .u64 ((x * y % 18446744073709551616 : Nat) : Int)]) ∧ w' = w := by
  obtain ⟨bd, bt, bw, hhi⟩ := Lib.mul64_hi x y hx hy
  have ba := Lib.half_mul_le (a := x / 4294967296) (b := y / 4294967296) (by omega) (by omega)
  have bb := Lib.half_mul_le (a := x / 4294967296) (b := y % 4294967296) (by omega) (by omega)
  have bc := Lib.half_mul_le (a := x % 4294967296) (b := y / 4294967296) (by omega) (by omega)
  have ba' : x / 4294967296 * (y / 4294967296) < 18446744073709551616 := by omega
  have bb' : x / 4294967296 * (y % 4294967296) < 18446744073709551616 := by omega
  have bc' : x % 4294967296 * (y / 4294967296) < 18446744073709551616 := by omega
  have bh1 : x / 4294967296 * (y / 4294967296) + (x / 4294967296 * (y % 4294967296) + x % 4294967296 * (y % 4294967296) / 4294967296) / 4294967296 < 18446744073709551616 := by omega
  have bh : x / 4294967296 * (y / 4294967296) + (x / 4294967296 * (y % 4294967296) + x % 4294967296 * (y % 4294967296) / 4294967296) / 4294967296 + ((x / 4294967296 * (y % 4294967296) + x % 4294967296 * (y % 4294967296) / 4294967296) % 4294967296 + x % 4294967296 * (y / 4294967296)) / 4294967296 < 18446744073709551616 := by omega
  go_enter Tryd.func84, Tryd.ntmps84
  go_wp2
  simp only [Mul64.maskN x hx, Mul64.maskN y hy, Mul64.divN, Mul64.mulN, Mul64.addN, Mul64.wrapN _ bd, Mul64.wrapN _ bb', Mul64.wrapN _ bt, Mul64.maskN _ bt, Mul64.wrapN _ bc', Mul64.wrapN _ bw, Mul64.wrapN _ ba', Mul64.wrapN _ bh1, Mul64.wrapN _ bh, Mul64.wrapM (x * y)]
  rw [hhi]
  go_ret2
  exact ⟨rfl, rfl⟩

theorem add64z (x y s o : Nat) (hs : s = (x + y) % 18446744073709551616) (ho : o = (x + y) / 18446744073709551616) (w : World) : (callFunc 85 #[.int .u64 (x : Int), .int .u64 (y : Int), .int .u64 0]).run Tryd.prog w =
    .ok (.value (.tuple #[.int .u64 (s : Int), .int .u64 (o : Int)])) w := add64n x y 0 s o (by omega) hs ho w

/-- A sum of products, as the program holds it. -/
def Wd (N : Nat) : List Value := [.int .u64 ((N / 18446744073709551616 : Nat) : Int), .int .u64 ((N % 18446744073709551616 : Nat) : Int)]

set_option maxHeartbeats 1600000 in
theorem plus_any (N x y : Nat) (hx : x < 18446744073709551616) (hy : y < 18446744073709551616) (hN : N + x * y < 340282366920938463463374607431768211456) (w : World) :
    Calls Tryd.prog 68 #[.agg (Wd N).toArray, .int .u64 (x : Int), .int .u64 (y : Int)] w fun e w' => e = .returned (.agg (Wd (N + x * y)).toArray) ∧ Below w.heap.size w w' := by
  have hmul := mul64n x y hx hy
  generalize x * y = M at *
  have hh : N / 18446744073709551616 < 18446744073709551616 := by omega
  have hl : N % 18446744073709551616 < 18446744073709551616 := Nat.mod_lt _ (by decide)
  have hadd := add64z (N % 18446744073709551616) (M % 18446744073709551616) ((N + M) % 18446744073709551616) ((N % 18446744073709551616 + M % 18446744073709551616) / 18446744073709551616) (by omega) (by omega)
  have hs : IntKind.u64.wrap (IntKind.u64.wrap (((N / 18446744073709551616 : Nat) : Int) + ((M / 18446744073709551616 : Nat) : Int)) + (((N % 18446744073709551616 + M % 18446744073709551616) / 18446744073709551616 : Nat) : Int)) = (((N + M) / 18446744073709551616 : Nat) : Int) := by
    simp only [IntKind.wrap_u64]
    omega
  simp only [Wd]
  generalize (N + M) / 18446744073709551616 = hr at *
  generalize (N + M) % 18446744073709551616 = lr at *
  generalize (N % 18446744073709551616 + M % 18446744073709551616) / 18446744073709551616 = ov at *
  generalize N / 18446744073709551616 = hn at *
  generalize N % 18446744073709551616 = ln at *
  generalize M / 18446744073709551616 = hm at *
  generalize M % 18446744073709551616 = lm at *
  have HS := Lib.hid hs
  have HMUL := Lib.hid hmul
  clear hs hN hmul
  go_enter Tryd.func68, Tryd.ntmps68
  go_wp2_with fail
  refine (HMUL.out _).mono ?_
  rintro e w' ⟨rfl, rfl⟩
  go_wp2_with fail
  refine bodyPost_ret (results_cell_row (by rfl) _ _ (w.heap.size + 1) _ _ _ _ (by rfl) (heap_alloc2_new _ _ _) Tryd.underlying84 rfl (by kernel_rfl)) rfl ?_
  refine ⟨?_, below2 _ _ _⟩
  rw [HS.out]
end

section
set_option maxRecDepth 100000
open Go.RowKit

set_option maxHeartbeats 1600000 in
theorem small_any (n : Nat) (h : n < 4294967296) (w : World) :
    Calls Tryd.prog 38 #[.int .u32 (n : Int)] w fun e w' => e = .returned (.agg (L5 n 0 0 0 0).toArray) ∧ Below w.heap.size w w' := by
  go_enter Tryd.func38, Tryd.ntmps38
  go_wp2
  refine bodyPost_ret (results_cell_row (by rfl) _ _ w.heap.size _ _ _ _ (by rfl) (heap_alloc_new _ _) Tryd.underlying26 rfl (by kernel_rfl)) rfl ?_
  exact ⟨rfl, (Below.refl _ _).alloc (Nat.le_refl _) _⟩
end

end Go.Proofs.YthpbipebpaeagaaDoor
