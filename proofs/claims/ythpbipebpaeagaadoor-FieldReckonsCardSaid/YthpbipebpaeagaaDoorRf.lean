/- The document's Of. -/
import Derived.Test.YthpbipebpaeagaaDoorRe
import Derived.Test.YthpbipebpaeagaaDoorOf
namespace Go.Proofs.YthpbipebpaeagaaDoor
set_option maxRecDepth 100000
set_option linter.unusedSimpArgs false
open Go.RowKit

theorem ofr_ref (N : Nat) (w : World) :
    Calls Tryd.prog 15 #[.agg (By N 32).toArray] w fun e w' => e = .returned (.agg (Nw (N % 57896044618658097711785492504343953926634992332820282019728792003956564819968 % pp)).toArray) ∧ Below w.heap.size w w' := by
  have hset31 := By_set31 N
  have hb31 := byt_lt N 31
  have hM : N % 57896044618658097711785492504343953926634992332820282019728792003956564819968 < 57896044618658097711785492504343953926634992332820282019728792003956564819968 := Nat.mod_lt _ (by decide)
  generalize N % 57896044618658097711785492504343953926634992332820282019728792003956564819968 = M at *
  have hraw := fun wx => raw_ref M (Nat.lt_of_lt_of_le hM (by decide)) wx
  have hdown := fun wx => down_ref M (Nat.lt_of_lt_of_le hM (by decide)) wx
  have HRAW := Lib.hid hraw
  have HDOWN := Lib.hid hdown
  have HS4 := Lib.hid nw_info
  have HSB := Lib.hid by_info
  have c31 : ∀ X, ((w.alloc (.cells (By N 32).toArray 22)).alloc X).cell? ⟨w.heap.size, 31, none⟩ = some (.int .u8 ((byt N 31 : Nat) : Int)) := fun X => ((Row.new w (By N 32) 22).alloc X).cell (By_get N 32 (by decide))
  have f31 : ∀ X, ((w.alloc (.cells (By N 32).toArray 22)).alloc X).frozen? ⟨w.heap.size, 31, none⟩ = false := fun X => ((Row.new w (By N 32) 22).alloc X).free 31
  have hbox : ∀ X, Row ((w.alloc (.cells ((By N 32).set 31 (.int .u8 (((byt N 31 : Nat) : Int) % 128))).toArray 22)).alloc X) w.heap.size 22 (By M 32) := fun X => by
    have e : (((byt N 31 : Nat) : Int) % 128) = ((byt N 31 % 128 : Nat) : Int) := by omega
    rw [e, hset31]
    exact (Row.new w (By M 32) 22).alloc X
  have HBOX := Lib.hid hbox
  have hz : ∀ X, Row ((w.alloc X).alloc (.cells #[.int .u32 0, .int .u32 0, .int .u32 0, .int .u32 0, .int .u32 0, .int .u32 0, .int .u32 0, .int .u32 0] 30)) (w.heap.size + 1) 30 (Nw 0) := fun X => by
    rw [Nw_zero]
    exact Row.new1 w _ _ _
  have HZ := Lib.hid hz
  clear hset31 hbox hraw hdown hM hz
  go_enter Tryd.func15, Tryd.ntmps15
  go_wp2_with (refine wpList_load_row rfl 22 (.tmp 1) rfl w.heap.size rfl 22 _ (0, 0) _ (HBOX.out _) Tryd.underlying22 rfl (HSB.out _) ?_)
  refine (HRAW.out _).mono ?_
  rintro e w1 ⟨rfl, hb1⟩
  have hz1 := (HZ.out _).belowAll hb1
  have hw1 := (Below.alloc2 w _ _).trans (hb1.mono (Below.alloc2 w _ _).size)
  have HZ1 := Lib.hid hz1
  have HW1 := Lib.hid hw1
  clear hb1 hz1 hw1
  go_wp2_with fail
  refine (HDOWN.out _).mono ?_
  rintro e w2 ⟨rfl, hb2⟩
  have hz2 := HZ1.out.belowAll hb2
  have hw2 := HW1.out.trans (hb2.mono HW1.out.size)
  have HW2 := Lib.hid hw2
  clear hb2 hw2
  go_wp2_with (refine wpList_store_row rfl 30 (.tmp 2) (.tmp 9) rfl (w.heap.size + 1) _ rfl rfl 30 _ hz2 (HS4.out _) (Nw_sz _ _) (Nw_one _) ?_)
  have hgot := setRow_heap w2 (w.heap.size + 1) _ (Nw (M % pp)).toArray _ _ hz2
  refine bodyPost_ret (results_cell_row (by rfl) _ _ (w.heap.size + 1) _ _ _ _ (by rfl) hgot Tryd.underlying30 rfl (HS4.out _)) rfl ?_
  exact ⟨rfl, below_setRow HW2.out (by omega) _⟩

end Go.Proofs.YthpbipebpaeagaaDoor
