/- field.carry. -/
import Derived.Test.YthpbipebpaeagaaDoorWide
import Derived.Test.YthpbipebpaeagaaDoorLimb
namespace Go.Proofs.YthpbipebpaeagaaDoor
set_option maxRecDepth 100000
open Go.RowKit

/-- Five limbs, as the program holds them. -/
def L5 (a b c d e : Nat) : List Value := [.int .u64 (a : Int), .int .u64 (b : Int), .int .u64 (c : Int), .int .u64 (d : Int), .int .u64 (e : Int)]

theorem below2 (w : World) (X Y : Obj) : Below w.heap.size w ((w.alloc X).alloc Y) := ((Below.refl _ _).alloc (Nat.le_refl _) _).alloc (by simp) _
theorem crr19 (a e : Nat) (he : e < 4611686018427387904) :
    IntKind.u64.wrap (((a % 2251799813685248 : Nat) : Int) + (e : Int) / 2251799813685248 * 19) = ((a % 2251799813685248 + e / 2251799813685248 * 19 : Nat) : Int) := by
  simp only [IntKind.wrap_u64]
  omega
theorem crr1 (a e : Nat) (he : e < 4611686018427387904) :
    IntKind.u64.wrap (((a % 2251799813685248 : Nat) : Int) + (e : Int) / 2251799813685248) = ((a % 2251799813685248 + e / 2251799813685248 : Nat) : Int) := by
  simp only [IntKind.wrap_u64]
  omega

set_option maxHeartbeats 1600000 in
theorem carry_any (a b c d e : Nat) (ha : a < 4611686018427387904) (hb : b < 4611686018427387904) (hc : c < 4611686018427387904) (hd : d < 4611686018427387904) (he : e < 4611686018427387904) (w : World) :
    Calls Tryd.prog 64 #[.agg (L5 a b c d e).toArray] w fun r w' => r = .returned (.agg (L5 (a % 2251799813685248 + e / 2251799813685248 * 19) (b % 2251799813685248 + a / 2251799813685248)
      (c % 2251799813685248 + b / 2251799813685248) (d % 2251799813685248 + c / 2251799813685248) (e % 2251799813685248 + d / 2251799813685248)).toArray) ∧ Below w.heap.size w w' := by
  simp only [L5]
  go_enter Tryd.func64, Tryd.ntmps64
  go_wp2
  refine bodyPost_ret (results_cell_row (by rfl) _ _ (w.heap.size + 1) _ _ _ _ (by rfl) (heap_alloc2_new _ _ _) Tryd.underlying24 rfl (by kernel_rfl)) rfl ?_
  refine ⟨?_, below2 _ _ _⟩
  rw [mask51 a (by omega), mask51 b (by omega), mask51 c (by omega), mask51 d (by omega), mask51 e (by omega), crr19 a e he, crr1 b a ha, crr1 c b hb, crr1 d c hc, crr1 e d hd]

end Go.Proofs.YthpbipebpaeagaaDoor
