/- field.Small. -/
import Derived.Test.YthpbipebpaeagaaDoorBits
namespace Go.Proofs.YthpbipebpaeagaaDoor
set_option maxRecDepth 100000
open Go.RowKit

set_option maxHeartbeats 1600000 in
theorem small_any (n : Nat) (h : n < 4294967296) (w : World) :
    Calls Tryd.prog 38 #[.int .u32 (n : Int)] w fun e w' => e = .returned (.agg (L5 n 0 0 0 0).toArray) ∧ Below w.heap.size w w' := by
  go_enter Tryd.func38, Tryd.ntmps38
  go_wp2
  refine bodyPost_ret (results_cell_row (by rfl) _ _ w.heap.size _ _ _ _ (by rfl) (heap_alloc_new _ _) Tryd.underlying26 rfl (by kernel_rfl)) rfl ?_
  exact ⟨rfl, (Below.refl _ _).alloc (Nat.le_refl _) _⟩

end Go.Proofs.YthpbipebpaeagaaDoor
