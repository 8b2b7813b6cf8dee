/- field's Neg. -/
import Derived.Test.YthpbipebpaeagaaDoorSub
namespace Go.Proofs.YthpbipebpaeagaaDoor
set_option maxRecDepth 100000
open Go.RowKit

set_option maxHeartbeats 1600000 in
theorem neg_any {x : Lm} (hx : x.ok) (w : World) (hq : En w) :
    Calls Tryd.prog 33 #[.agg (EL x).toArray] w fun e w' => e = .returned (.agg (EL (negL x)).toArray) ∧ Below w.heap.size w w' := by
  unfold negL
  have hS4 := el_info
  have hsub := fun wx hqx => sub_any (x := zeL) (y := x) zeL_ok hx wx hqx
  have HS4 := Lib.hid hS4
  have HSUB := Lib.hid hsub
  have HQ := Lib.hid hq
  clear hx hS4 hsub hq
  go_enter Tryd.func33, Tryd.ntmps33
  have hbox : ∀ X, Row ((w.alloc (.cells (EL x).toArray 26)).alloc X) w.heap.size 26 (EL x) := fun _ => (Row.new w (EL x) _).alloc _
  have HBOX := Lib.hid hbox
  clear hbox
  go_wp2_with (refine wpList_load_row rfl 26 (.tmp 1) rfl w.heap.size rfl 26 _ (0, 0) _ (HBOX.out _) Tryd.underlying26 rfl (HS4.out _) ?_)
  refine (HSUB.out _ (HQ.out.belowAll (Below.alloc2 _ _ _))).mono ?_
  rintro e w5 ⟨rfl, hb5⟩
  have HR5 := Lib.hid ((Row.new1 w (.cells (EL x).toArray 26) (EL zeL) 26).belowAll hb5)
  have HB5 := Lib.hid ((Below.alloc2 w (.cells (EL x).toArray 26) (.cells (EL zeL).toArray 26)).trans (hb5.mono (Below.alloc2 w (.cells (EL x).toArray 26) (.cells (EL zeL).toArray 26)).size))
  clear hb5
  go_wp2_with (refine wpList_store_row rfl 26 (.tmp 2) (.tmp 5) rfl (w.heap.size + 1) _ rfl rfl 26 _ HR5.out (HS4.out _) (EL_sz _ _) (EL_one _) ?_)
  have hgot := setRow_heap w5 (w.heap.size + 1) _ (EL (subL zeL x)).toArray _ _ HR5.out
  refine bodyPost_ret (results_cell_row (by rfl) _ _ (w.heap.size + 1) _ _ _ _ (by rfl) hgot Tryd.underlying26 rfl (HS4.out _)) rfl ?_
  exact ⟨rfl, below_setRow HB5.out (by omega) _⟩

end Go.Proofs.YthpbipebpaeagaaDoor
