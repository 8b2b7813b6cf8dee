/- The document's Sub. -/
import Derived.Test.YthpbipebpaeagaaDoorRg
namespace Go.Proofs.YthpbipebpaeagaaDoor
set_option maxRecDepth 100000
set_option linter.unusedSimpArgs false
open Go.RowKit

theorem nw_zero_row (w : World) : Row (w.alloc (.cells #[.int .u32 0, .int .u32 0, .int .u32 0, .int .u32 0, .int .u32 0, .int .u32 0, .int .u32 0, .int .u32 0] 30)) w.heap.size 30 (Nw 0) := by
  rw [Nw_zero]
  exact Row.new w _ _

set_option maxHeartbeats 3200000 in
theorem subr_le (A B : Nat) (hA : A < pp) (hB : B < pp) (h : B ≤ A) (w : World) :
    Calls Tryd.prog 30 #[.agg (Nw A).toArray, .agg (Nw B).toArray] w fun e w' => e = .returned (.agg (Nw (A - B)).toArray) ∧ Below w.heap.size w w' := by
  have hm := fun wx => minus_ref A B (Nat.lt_trans hA pp_W8) (Nat.lt_trans hB pp_W8) wx
  rw [dif8_sub h, decide_eq_false (by omega)] at hm
  have HM := Lib.hid hm
  have HS4 := Lib.hid nw_info
  clear hm hA hB h
  have ha : ∀ X Y, Row (((w.alloc (.cells (Nw A).toArray 30)).alloc X).alloc Y) w.heap.size 30 (Nw A) := fun X Y => ((Row.new w _ _).alloc _).alloc _
  have hb : ∀ X Y, Row (((w.alloc X).alloc (.cells (Nw B).toArray 30)).alloc Y) (w.heap.size + 1) 30 (Nw B) := fun X Y => (Row.new1 w _ _ _).alloc _
  have hz : ∀ X Y, Row (((w.alloc X).alloc Y).alloc (.cells #[.int .u32 0, .int .u32 0, .int .u32 0, .int .u32 0, .int .u32 0, .int .u32 0, .int .u32 0, .int .u32 0] 30)) (w.heap.size + 1 + 1) 30 (Nw 0) := fun X Y => by
    rw [Nw_zero]
    exact Row.new2 w _ _ _ _
  have HA := Lib.hid ha
  have HB := Lib.hid hb
  have HZ := Lib.hid hz
  clear ha hb hz
  go_enter Tryd.func30, Tryd.ntmps30
  go_wp2_with (first
    | (refine wpList_load_row rfl 30 (.tmp 2) rfl w.heap.size rfl 30 _ (0, 0) _ (HA.out _ _) Tryd.underlying30 rfl (HS4.out _) ?_)
    | (refine wpList_load_row rfl 30 (.tmp 3) rfl (w.heap.size + 1) rfl 30 _ (0, 0) _ (HB.out _ _) Tryd.underlying30 rfl (HS4.out _) ?_))
  refine (HM.out _).mono ?_
  rintro e w1 ⟨rfl, hb1⟩
  have hz1 := (HZ.out _ _).belowAll hb1
  have hw1 := (Below.alloc3 w _ _ _).trans (hb1.mono (Below.alloc3 w _ _ _).size)
  have hlt := hz1.lt
  have hn := nw_zero_row w1
  have hd := hn.setRow (Nw (A - B))
  have hz2 := (hz1.alloc (.cells #[.int .u32 0, .int .u32 0, .int .u32 0, .int .u32 0, .int .u32 0, .int .u32 0, .int .u32 0, .int .u32 0] 30)).setRowOther (k := w1.heap.size) (by omega) (Nw (A - B)).toArray
  have hw2 := below_setRow (g := w1.heap.size) (hw1.alloc hw1.size (.cells #[.int .u32 0, .int .u32 0, .int .u32 0, .int .u32 0, .int .u32 0, .int .u32 0, .int .u32 0, .int .u32 0] 30)) hw1.size (Nw (A - B)).toArray
  have hgot := setRow_heap _ (w.heap.size + 1 + 1) _ (Nw (A - B)).toArray _ _ hz2
  have HZ2 := Lib.hid hz2
  have HW2 := Lib.hid hw2
  have HN := Lib.hid hn
  have HD := Lib.hid hd
  have HGOT := Lib.hid hgot
  clear hb1 hz1 hw1 hn hd hz2 hw2 hgot
  go_wp2_with (first
    | (refine wpList_store_row rfl 30 (.tmp 5) (.tmp 13) rfl w1.heap.size _ rfl rfl 30 _ HN.out (HS4.out _) (Nw_sz _ _) (Nw_one _) ?_)
    | (refine wpList_load_row rfl 30 (.tmp 5) rfl w1.heap.size rfl 30 _ (0, 0) _ HD.out Tryd.underlying30 rfl (HS4.out _) ?_)
    | (refine wpList_store_row rfl 30 (.tmp 4) (.tmp 17) rfl (w.heap.size + 1 + 1) _ rfl rfl 30 _ HZ2.out (HS4.out _) (Nw_sz _ _) (Nw_one _) ?_))
  refine bodyPost_ret (results_cell_row (by rfl) _ _ (w.heap.size + 1 + 1) _ _ _ _ (by rfl) HGOT.out Tryd.underlying30 rfl (HS4.out _)) rfl ?_
  exact ⟨rfl, below_setRow HW2.out (by omega) _⟩

set_option maxHeartbeats 3200000 in
theorem subr_lt (A B : Nat) (hA : A < pp) (hB : B < pp) (h : A < B) (w : World) :
    Calls Tryd.prog 30 #[.agg (Nw A).toArray, .agg (Nw B).toArray] w fun e w' => e = .returned (.agg (Nw ((A + (pp - B)) % pp)).toArray) ∧ Below w.heap.size w w' := by
  have hm := fun wx => minus_ref A B (Nat.lt_trans hA pp_W8) (Nat.lt_trans hB pp_W8) wx
  rw [decide_eq_true h] at hm
  have hn := fun wx => minus_ref pp B pp_W8 (Nat.lt_trans hB pp_W8) wx
  rw [dif8_sub (Nat.le_of_lt hB), decide_eq_false (by omega)] at hn
  have hsum : A + (pp - B) < W8 := by
    have : pp < W8 := pp_W8
    omega
  have had := fun wx => addr_ref A (pp - B) hsum wx
  have HM := Lib.hid hm
  have HN := Lib.hid hn
  have HAD := Lib.hid had
  have HS4 := Lib.hid nw_info
  clear hm hn had hsum hA hB h
  have ha : ∀ X Y, Row (((w.alloc (.cells (Nw A).toArray 30)).alloc X).alloc Y) w.heap.size 30 (Nw A) := fun X Y => ((Row.new w _ _).alloc _).alloc _
  have hb : ∀ X Y, Row (((w.alloc X).alloc (.cells (Nw B).toArray 30)).alloc Y) (w.heap.size + 1) 30 (Nw B) := fun X Y => (Row.new1 w _ _ _).alloc _
  have hz : ∀ X Y, Row (((w.alloc X).alloc Y).alloc (.cells #[.int .u32 0, .int .u32 0, .int .u32 0, .int .u32 0, .int .u32 0, .int .u32 0, .int .u32 0, .int .u32 0] 30)) (w.heap.size + 1 + 1) 30 (Nw 0) := fun X Y => by
    rw [Nw_zero]
    exact Row.new2 w _ _ _ _
  have HA := Lib.hid ha
  have HB := Lib.hid hb
  have HZ := Lib.hid hz
  clear ha hb hz
  go_enter Tryd.func30, Tryd.ntmps30
  go_wp2_with (first
    | (refine wpList_load_row rfl 30 (.tmp 2) rfl w.heap.size rfl 30 _ (0, 0) _ (HA.out _ _) Tryd.underlying30 rfl (HS4.out _) ?_)
    | (refine wpList_load_row rfl 30 (.tmp 3) rfl (w.heap.size + 1) rfl 30 _ (0, 0) _ (HB.out _ _) Tryd.underlying30 rfl (HS4.out _) ?_))
  refine (HM.out _).mono ?_
  rintro e w1 ⟨rfl, hb1⟩
  have ha1 := (HA.out _ _).belowAll hb1
  have hb1r := (HB.out _ _).belowAll hb1
  have hz1 := (HZ.out _ _).belowAll hb1
  have hw1 := (Below.alloc3 w _ _ _).trans (hb1.mono (Below.alloc3 w _ _ _).size)
  have hlt := hz1.lt
  have hn := nw_zero_row w1
  have ha2 := (ha1.alloc (.cells #[.int .u32 0, .int .u32 0, .int .u32 0, .int .u32 0, .int .u32 0, .int .u32 0, .int .u32 0, .int .u32 0] 30)).setRowOther (k := w1.heap.size) (by omega) (Nw (dif8 A B)).toArray
  have hb2 := (hb1r.alloc (.cells #[.int .u32 0, .int .u32 0, .int .u32 0, .int .u32 0, .int .u32 0, .int .u32 0, .int .u32 0, .int .u32 0] 30)).setRowOther (k := w1.heap.size) (by omega) (Nw (dif8 A B)).toArray
  have hz2 := (hz1.alloc (.cells #[.int .u32 0, .int .u32 0, .int .u32 0, .int .u32 0, .int .u32 0, .int .u32 0, .int .u32 0, .int .u32 0] 30)).setRowOther (k := w1.heap.size) (by omega) (Nw (dif8 A B)).toArray
  have hw2 := below_setRow (g := w1.heap.size) (hw1.alloc hw1.size (.cells #[.int .u32 0, .int .u32 0, .int .u32 0, .int .u32 0, .int .u32 0, .int .u32 0, .int .u32 0, .int .u32 0] 30)) hw1.size (Nw (dif8 A B)).toArray
  have HA2 := Lib.hid ha2
  have HB2 := Lib.hid hb2
  have HZ2 := Lib.hid hz2
  have HW2 := Lib.hid hw2
  have HZN := Lib.hid hn
  clear hb1 hz1 hw1 hn ha2 hb2 hz2 hw2 ha1 hb1r
  go_wp2_with (refine wpList_store_row rfl 30 (.tmp 5) (.tmp 13) rfl w1.heap.size _ rfl rfl 30 _ HZN.out (HS4.out _) (Nw_sz _ _) (Nw_one _) ?_)
  have ha3 := HA2.out
  have hb3 := HB2.out
  have hz3 := HZ2.out
  have hw3 := HW2.out
  clear HA2 HB2 HZ2 HW2 HZN
  generalize (w1.alloc (.cells #[.int .u32 0, .int .u32 0, .int .u32 0, .int .u32 0, .int .u32 0, .int .u32 0, .int .u32 0, .int .u32 0] 30)).setRow w1.heap.size (Nw (dif8 A B)).toArray = W2 at *
  refine wp_vars_one (aD := ?aD2) (B := W2.heap.size) (S := fun w' => Below W2.heap.size W2 w') (k1 := 6) (s1 := 7) (T1 := 30) (L1 := 30) (z1 := Nw 0) (c1 := Nw (pp - B)) (x1 := .tmp 7) (y1 := .tmp 22)
    (vs := [(0, .agg (Nw pp).toArray), (1, .agg (Nw B).toArray), (2, .tuple #[.agg (Nw (pp - B)).toArray, .bool false]), (3, .tuple #[.agg (Nw (pp - B)).toArray, .bool false]), (4, .agg (Nw (pp - B)).toArray), (5, .bool false), (8, .bool false)]) (by kernel_rfl) ((Below.refl _ _).drew) (fun _ _ h k => S_trans h k) (fun _ _ _ h hg => S_row h hg _) (fun _ h => h.size) ?hD2 ?hA2 ?hk2 rfl rfl (some 7) rfl rfl rfl ?e1 ?e2 (HS4.out _) (Nw_sz _ _) (Nw_one _) ?h2
  case hD2 =>
    refine .step (some 19) rfl rfl (by kernel_rfl) (Gives.call (args := []) rfl Tryd.func25 (by kernel_rfl) (by kernel_rfl) rfl (fun w' _ => P_any w')) ?_
    simp only [Act.put, List.setIfInBounds_toArray, List.set_cons_zero, List.set_cons_succ]
    refine .step (some 20) rfl rfl (by kernel_rfl) (Gives.load_row 30 (.tmp 3) rfl (w.heap.size + 1) rfl 30 _ (fun w' h => hb3.belowAll h) Tryd.underlying30 rfl (HS4.out _)) ?_
    simp only [Act.put, List.setIfInBounds_toArray, List.set_cons_zero, List.set_cons_succ]
    refine .step (some 21) rfl rfl (by kernel_rfl) (Gives.call (args := [.agg (Nw pp).toArray, .agg (Nw B).toArray]) rfl Tryd.func67 (by kernel_rfl) (by kernel_rfl) rfl (fun w' _ => HN.out w')) ?_
    simp only [Act.put, List.setIfInBounds_toArray, List.set_cons_zero, List.set_cons_succ]
    refine .step (some 18) rfl rfl (by kernel_rfl) (Gives.move (x := .tmp 21) rfl rfl) ?_
    simp only [Act.put, List.setIfInBounds_toArray, List.set_cons_zero, List.set_cons_succ]
    refine .step (some 22) rfl rfl (by kernel_rfl) (Gives.extract (.tmp 18) 0 rfl _ _ rfl (fun w' => nw_ext0 _ _ w')) ?_
    simp only [Act.put, List.setIfInBounds_toArray, List.set_cons_zero, List.set_cons_succ]
    refine .step (some 23) rfl rfl (by kernel_rfl) (Gives.extract (.tmp 18) 1 rfl _ _ rfl (fun w' => nw_ext1 _ _ w')) ?_
    simp only [Act.put, List.setIfInBounds_toArray, List.set_cons_zero, List.set_cons_succ]
    refine .step (some 8) rfl rfl (by kernel_rfl) (Gives.assign (x := .tmp 23) rfl rfl) ?_
    simp only [Act.put, List.setIfInBounds_toArray, List.set_cons_zero, List.set_cons_succ]
    exact .nil
  case hA2 =>
    rw [Nw_zero]
    exact AllocOp.of rfl rfl rfl (fun w' => rfl)
  case hk2 => kernel_rfl
  case e1 => exact fun p => rfl
  case e2 => exact fun p => rfl
  case h2 =>
  intro p w4 hb4 hp hrowp
  simp only [Act.put, List.setIfInBounds_toArray, List.set_cons_zero, List.set_cons_succ]
  have ha4 := ha3.belowAll hb4
  have hz4 := hz3.belowAll hb4
  have hw4 := hw3.trans (hb4.mono hw3.size)
  have HA4 := Lib.hid ha4
  have HP4 := Lib.hid hrowp
  clear ha3 hb3 hz3 hw3 hb4 ha4 hrowp
  have HZ4 := Lib.hid hz4
  have HW4 := Lib.hid hw4
  clear hz4 hw4
  go_wp2_with (first
    | (refine wpList_load_row rfl 30 (.tmp 2) rfl w.heap.size rfl 30 _ (0, 0) _ HA4.out Tryd.underlying30 rfl (HS4.out _) ?_)
    | (refine wpList_load_row rfl 30 (.tmp 7) rfl p rfl 30 _ (0, 0) _ HP4.out Tryd.underlying30 rfl (HS4.out _) ?_))
  refine (HAD.out _).mono ?_
  rintro e w5 ⟨rfl, hb5⟩
  have hz5 := HZ4.out.belowAll hb5
  have hw5 := HW4.out.trans (hb5.mono HW4.out.size)
  have HW5 := Lib.hid hw5
  clear hb5 hw5
  go_wp2_with (refine wpList_store_row rfl 30 (.tmp 4) (.tmp 26) rfl (w.heap.size + 1 + 1) _ rfl rfl 30 _ hz5 (HS4.out _) (Nw_sz _ _) (Nw_one _) ?_)
  have hgot := setRow_heap w5 (w.heap.size + 1 + 1) _ (Nw ((A + (pp - B)) % pp)).toArray _ _ hz5
  refine bodyPost_ret (results_cell_row (by rfl) _ _ (w.heap.size + 1 + 1) _ _ _ _ (by rfl) hgot Tryd.underlying30 rfl (HS4.out _)) rfl ?_
  exact ⟨rfl, below_setRow HW5.out (by omega) _⟩

theorem subr_ref (A B : Nat) (hA : A < pp) (hB : B < pp) (w : World) :
    Calls Tryd.prog 30 #[.agg (Nw A).toArray, .agg (Nw B).toArray] w fun e w' => e = .returned (.agg (Nw ((A + (pp - B)) % pp)).toArray) ∧ Below w.heap.size w w' := by
  by_cases h : A < B
  · exact subr_lt A B hA hB h w
  · have e : (A + (pp - B)) % pp = A - B := by
      have e1 : A + (pp - B) = (A - B) + pp := by omega
      rw [e1, Nat.add_mod_right]
      exact Nat.mod_eq_of_lt (by omega)
    rw [e]
    exact subr_le A B hA hB (by omega) w

end Go.Proofs.YthpbipebpaeagaaDoor
