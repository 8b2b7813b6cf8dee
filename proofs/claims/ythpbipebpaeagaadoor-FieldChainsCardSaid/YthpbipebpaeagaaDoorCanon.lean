/- field.Canonical. -/
import Derived.Test.YthpbipebpaeagaaDoorRe
namespace Go.Proofs.YthpbipebpaeagaaDoor
set_option maxRecDepth 100000
set_option linter.unusedSimpArgs false
open Go.RowKit

set_option maxHeartbeats 800000 in
theorem canonical_any (N : Nat) (hN : N < 256 ^ 32) (hok : (ofB N).ok) (w : World) :
    Calls Tryd.prog 22 #[.agg (By N 32).toArray] w fun e w' => e = .returned (.bool (decide (nu (ofB N) = N))) ∧ Below w.heap.size w w' := by
  have HOF := Lib.hid (fun wx => of_any N wx)
  have HBY := Lib.hid (bytes_any hok)
  have HEQ := Lib.hid (fun w => beq_num (nu_256 (ofB N)) hN w)
  have hr1 := Row.new w (By N 32) 22
  have hb2 := (Below.refl w.heap.size w).alloc (Nat.le_refl _) (.cells (By N 32).toArray 22)
  clear hN hok
  generalize ofB N = m at *
  go_enter Tryd.func22, Tryd.ntmps22
  go_wp2_with fail
  generalize w.alloc (.cells (By N 32).toArray 22) = w2 at *
  have hSB : ∀ a b, Below w2.heap.size w2 a → Below a.heap.size a b → Below w2.heap.size w2 b := fun a b h k => h.trans (k.mono h.size)
  refine wp_flat_none (aD := ?aD) (S := fun w' => Below w2.heap.size w2 w') (vs := [(0, .agg (By N 32).toArray), (1, .agg (EL m).toArray), (2, .agg (By (nu m) 32).toArray), (3, .agg (By N 32).toArray), (4, .bool (decide (nu m = N))), (5, .bool (decide (nu m = N)))]) (by kernel_rfl) ((Below.refl _ _).drew) hSB ?hD ?hk ?hend
  case hD =>
    refine .step (some 3) rfl rfl (by kernel_rfl) (Gives.load_row 22 (.tmp 1) rfl w.heap.size rfl 22 _ (fun w' h => hr1.belowAll h) Tryd.underlying22 rfl (by_info _)) ?_
    simp only [Act.put, List.setIfInBounds_toArray, List.set_cons_zero, List.set_cons_succ]
    refine .step (some 4) rfl rfl (by kernel_rfl) (Gives.call rfl Tryd.func14 (by kernel_rfl) (by kernel_rfl) rfl (fun w' _ => HOF.out w')) ?_
    simp only [Act.put, List.setIfInBounds_toArray, List.set_cons_zero, List.set_cons_succ]
    refine .step (some 5) rfl rfl (by kernel_rfl) (Gives.call rfl Tryd.func16 (by kernel_rfl) (by kernel_rfl) rfl (fun w' _ => HBY.out w')) ?_
    simp only [Act.put, List.setIfInBounds_toArray, List.set_cons_zero, List.set_cons_succ]
    refine .step (some 6) rfl rfl (by kernel_rfl) (Gives.load_row 22 (.tmp 1) rfl w.heap.size rfl 22 _ (fun w' h => hr1.belowAll h) Tryd.underlying22 rfl (by_info _)) ?_
    simp only [Act.put, List.setIfInBounds_toArray, List.set_cons_zero, List.set_cons_succ]
    refine .step (some 7) rfl rfl (by kernel_rfl) (Gives.binop .eql 22 22 (.tmp 5) (.tmp 6) rfl _ _ _ rfl rfl (fun w' => bgrd _ _ _ _ _ _) (fun w' => HEQ.out w')) ?_
    simp only [Act.put, List.setIfInBounds_toArray, List.set_cons_zero, List.set_cons_succ]
    refine .step (some 2) rfl rfl (by kernel_rfl) (Gives.assign (x := .tmp 7) rfl rfl) ?_
    simp only [Act.put, List.setIfInBounds_toArray, List.set_cons_zero, List.set_cons_succ]
    exact .nil
  case hk => kernel_rfl
  case hend =>
    intro w' hb
    go_wp2_with fail
    go_ret
    exact ⟨rfl, hb2.trans (hb.mono hb2.size)⟩

end Go.Proofs.YthpbipebpaeagaaDoor
