/- field's Sub, Neg. -/
import Derived.Test.YthpbipebpaeagaaDoorAdd
namespace Go.Proofs.YthpbipebpaeagaaDoor
set_option maxRecDepth 100000
open Go.RowKit

/-- 4 p, limb by limb: what is added ahead of a difference. -/
def enL : Lm := ⟨9007199254740916, 9007199254740988, 9007199254740988, 9007199254740988, 9007199254740988⟩
theorem pSub_get (x y : Lm) (k : Nat) : (pSub x y).get k = x.get k + enL.get k - y.get k := by
  match k with
  | 0 => rfl
  | 1 => rfl
  | 2 => rfl
  | 3 => rfl
  | _ + 4 => rfl
theorem enL_get {k : Nat} (hk : k < 5) : 9007199254740916 ≤ enL.get k ∧ enL.get k ≤ 9007199254740988 := by
  match k, hk with
  | 0, _ => decide
  | 1, _ => decide
  | 2, _ => decide
  | 3, _ => decide
  | 4, _ => decide
/-- The table, as it lies. -/
def En (w : World) : Prop := ∃ t, w.heap[0]? = some (.cells (EL enL).toArray t (0, 0))
theorem En.lt {w : World} (h : En w) : 0 < w.heap.size := by
  obtain ⟨t, h⟩ := h
  exact (Array.getElem?_eq_some_iff.1 h).1
theorem En.below {w w' : World} {B : Nat} (h : En w) (hb : Below B w w') (hB : 0 < B) : En w' := by
  obtain ⟨t, h⟩ := h
  exact ⟨t, (hb.block _ hB).trans h⟩
theorem En.belowAll {w w' : World} (h : En w) (hb : Below w.heap.size w w') : En w' := h.below hb h.lt


set_option maxHeartbeats 1600000 in
theorem sub_any {x y : Lm} (hx : x.ok) (hy : y.ok) (w : World) (hq : En w) :
    Calls Tryd.prog 29 #[.agg (EL x).toArray, .agg (EL y).toArray] w fun e w' => e = .returned (.agg (EL (subL x y)).toArray) ∧ Below w.heap.size w w' := by
  unfold subL
  have hcr := carry_lm (pSub_wide (y := y) hx)
  have hbox : ∀ X Y Z, Row ((((w.alloc (.cells (EL x).toArray 26)).alloc X).alloc Y).alloc Z) w.heap.size 26 (EL x) := fun _ _ _ => (((Row.new w (EL x) _).alloc _).alloc _).alloc _
  have HBOX := Lib.hid hbox
  clear hbox
  have hS4 := el_info
  have hS5 := l5_info
  have hbd := el_build (crL (pSub x y))
  have HQ := Lib.hid hq
  have HX := Lib.hid hx
  have HY := Lib.hid hy
  have HCR := Lib.hid hcr
  have HS4 := Lib.hid hS4
  have HS5 := Lib.hid hS5
  have HBD := Lib.hid hbd
  have HIX := Lib.hid (fun k (hk : k < 5) => l5_index x hk)
  clear hx hy hcr hS4 hS5 hbd hq
  go_enter Tryd.func29, Tryd.ntmps29
  go_wp2_with (refine wpList_load_row rfl 24 (.tmp 8) rfl w.heap.size rfl 26 _ (0, 0) _ (HBOX.out _ _ _) Tryd.underlying24 rfl (HS5.out _) ?_)
  go_loopw [10] (fun i wr => ∃ k : Nat, k ≤ 5 ∧ i = .int .i64 k ∧ Row wr (w.heap.size + 1) 26 (EL y) ∧ Row wr (w.heap.size + 1 + 1 + 1) 24 (Tab .u64 (pSub x y).get 5 k) ∧ Row wr (w.heap.size + 1 + 1) 26 (EL zeL) ∧ Below w.heap.size w wr) (fun i _ => 5 - (intOf i).toNat)
  case atStart =>
    refine ⟨0, Nat.zero_le _, rfl, ((Row.new1 w _ _ _).alloc _).alloc _, ?_, (Row.new2 w _ _ _ _).alloc _, Below.alloc4 _ _ _ _ _⟩
    rw [Tab_5]
    exact Row.new3 w _ _ _ _ _
  case round =>
    obtain ⟨k, hkn, rfl, hy, hl, hres, hbe⟩ := hrel
    by_cases hlt : k < 5
    · have hcy := hy.cell (EL_get y hlt)
      have hold := hl.cell (Tab_get .u64 (pSub x y).get 5 k hlt)
      have hfree := hl.free k
      have hset := hl.set k (.int .u64 (((pSub x y).get k : Nat) : Int))
      rw [Tab_set _ _ _ hlt] at hset
      have hy2 := hy.setCell (p := ⟨w.heap.size + 1 + 1 + 1, k, none⟩) (by show _ ≠ w.heap.size + 1 + 1 + 1; omega) (.int .u64 (((pSub x y).get k : Nat) : Int))
      have hres2 := hres.setCell (p := ⟨w.heap.size + 1 + 1 + 1, k, none⟩) (by show _ ≠ w.heap.size + 1 + 1 + 1; omega) (.int .u64 (((pSub x y).get k : Nat) : Int))
      have hb2 := hbe.setCell (p := ⟨w.heap.size + 1 + 1 + 1, k, none⟩) (by simp; omega) (.int .u64 (((pSub x y).get k : Nat) : Int))
      have hix := HIX.out k hlt
      have lx := Lm.get_lt HX.out k
      have ly := Lm.get_lt HY.out k
      obtain ⟨tq, hqr⟩ := HQ.out.below hbe HQ.out.lt
      have hcq : wr.cell? ⟨0, k, none⟩ = some (.int .u64 ((enL.get k : Nat) : Int)) := by
        rw [cell_of_row wr 0 k _ _ _ hqr, List.getElem?_toArray]
        exact EL_get enL hlt
      have lz := enL_get hlt
      have hcalc : (((pSub x y).get k : Nat) : Int) = ((x.get k : Nat) : Int) + ((enL.get k : Nat) : Int) - ((y.get k : Nat) : Int) := by rw [pSub_get]; omega
      rw [hcalc] at hset hy2 hres2 hb2
      generalize enL.get k = zk at *
      clear hqr
      generalize x.get k = xk at *
      generalize y.get k = yk at *
      have b0 : (0 : Int) ≤ (k : Int) := by omega
      have b1 : (k : Int) < 5 := by omega
      have HSET := Lib.hid hset
      have HY2 := Lib.hid hy2
      have HRES2 := Lib.hid hres2
      have HB2 := Lib.hid hb2
      clear hy hl hres hbe hset hy2 hres2 hb2 hcalc
      go_wp2_with fail
      go_region
      go_wp2_with fail
      go_roundw
      case rel => exact ⟨k + 1, by omega, by go_num, HY2.out, HSET.out, HRES2.out, HB2.out.drew⟩
      case measure => simp [intOf]; omega
    · obtain rfl : k = 5 := by omega
      rw [Tab_done, EL_tabs] at hl
      have HROW := Lib.hid hl
      have HRES := Lib.hid hres
      have HBE := Lib.hid hbe
      clear hl hres hbe hy
      go_wp2_with (refine wpList_load_row rfl 24 (.tmp 5) rfl (w.heap.size + 1 + 1 + 1) rfl 24 _ (0, 0) _ HROW.out Tryd.underlying24 rfl (HS5.out _) ?_)
      refine (HCR.out _).mono ?_
      rintro e w5 ⟨rfl, hb5⟩
      have HRES5 := Lib.hid (HRES.out.belowAll hb5)
      have HBE5 := Lib.hid (HBE.out.trans (hb5.mono HBE.out.size))
      clear hb5
      go_wp2_with (first
        | (refine wpList_build1 rfl 26 (.tmp 28) rfl (.agg (EL (crL (pSub x y))).toArray) (.agg (EL (crL (pSub x y))).toArray) rfl (HBD.out _) ?_)
        | (refine wpList_store_row rfl 26 (.tmp 4) (.tmp 29) rfl (w.heap.size + 1 + 1) _ rfl rfl 26 _ HRES5.out (HS4.out _) (EL_sz _ _) (EL_one _) ?_))
      have hgot := setRow_heap w5 (w.heap.size + 1 + 1) _ (EL (crL (pSub x y))).toArray _ _ HRES5.out
      refine bodyPost_ret (results_cell_row (by rfl) _ _ (w.heap.size + 1 + 1) _ _ _ _ (by rfl) hgot Tryd.underlying26 rfl (HS4.out _)) rfl ?_
      exact ⟨rfl, below_setRow HBE5.out (by omega) _⟩

end Go.Proofs.YthpbipebpaeagaaDoor
