/- field's wide: limb, over. -/
import Derived.Test.YthpbipebpaeagaaDoorRowz
import Derived.Test.YthpbipebpaeagaaDoorRows
import Derived.Laws.BitsAllLaws
import Derived.Laws.Bits64b
import Derived.Deep.CutRange
import Derived.Deep.CutBlock
import Derived.RegionTactic
import Derived.Lib.Hide
import Derived.IntWalk
namespace Go.Proofs.YthpbipebpaeagaaDoor
set_option maxRecDepth 100000
open Go.RowKit

theorem w64 (n : Int) (h₀ : 0 ≤ n) (h₁ : n < 2 ^ 64) : IntKind.u64.wrap n = n := by rw [IntKind.wrap_u64]; omega
theorem mask51 (l : Nat) (h : l < 18446744073709551616) : bits .and .u64 (l : Int) 2251799813685247 = ((l % 2251799813685248 : Nat) : Int) := by
  have h1 := bits_mask .u64 64 (by decide) w64 51 (by decide) (l : Int) (by omega) (by omega)
  have h2 : ((l % 2251799813685248 : Nat) : Int) = (l : Int) % 2 ^ 51 := by omega
  rw [h2]
  exact h1
theorem or13 (h l : Nat) (hl : l < 18446744073709551616) : bits .or .u64 (IntKind.u64.wrap ((h : Int) * 8192)) ((l : Int) / 2251799813685248)
    = ((h * 8192 % 18446744073709551616 + l / 2251799813685248 : Nat) : Int) := by
  have e1 : IntKind.u64.wrap ((h : Int) * 8192) = ((h * 8192 % 18446744073709551616 : Nat) : Int) := by
    rw [IntKind.wrap_u64]
    omega
  have e2 : (l : Int) / 2251799813685248 = ((l / 2251799813685248 : Nat) : Int) := by omega
  rw [e1, e2, bits_or_u64_nat _ _ (by omega) (by omega)]
  have e3 : h * 8192 % 18446744073709551616 = 2 ^ 13 * (h % 2251799813685248) := by omega
  rw [e3, ← Nat.two_pow_add_eq_or_of_lt (by omega)]

set_option maxHeartbeats 1600000 in
theorem limb_any (h l : Nat) (hl : l < 18446744073709551616) (w : World) :
    Calls Tryd.prog 69 #[.agg #[.int .u64 (h : Int), .int .u64 (l : Int)]] w fun e w' => e = .returned (.int .u64 ((l % 2251799813685248 : Nat) : Int)) ∧ Below w.heap.size w w' := by
  go_enter Tryd.func69, Tryd.ntmps69
  go_wp2
  go_ret
  refine ⟨?_, (Below.refl _ _).alloc (Nat.le_refl _) _⟩
  rw [mask51 l hl]
  rfl

set_option maxHeartbeats 1600000 in
theorem over_any (h l : Nat) (hl : l < 18446744073709551616) (w : World) :
    Calls Tryd.prog 70 #[.agg #[.int .u64 (h : Int), .int .u64 (l : Int)]] w fun e w' => e = .returned (.int .u64 (((h * 8192) % 18446744073709551616 + l / 2251799813685248 : Nat) : Int)) ∧ Below w.heap.size w w' := by
  go_enter Tryd.func70, Tryd.ntmps70
  go_wp2
  go_ret
  refine ⟨?_, (Below.refl _ _).alloc (Nat.le_refl _) _⟩
  rw [or13 h l hl]
  rfl

end Go.Proofs.YthpbipebpaeagaaDoor
