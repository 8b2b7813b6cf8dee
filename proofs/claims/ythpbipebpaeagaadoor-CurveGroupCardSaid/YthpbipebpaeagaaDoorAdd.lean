/- field's Add, Sub. -/
import Derived.Test.YthpbipebpaeagaaDoorOfM
import Derived.Test.YthpbipebpaeagaaDoorDw
import Derived.Test.YthpbipebpaeagaaDoorSmall
import Derived.Test.YthpbipebpaeagaaDoorFlat
import Derived.Deep.QuietTactic
import Derived.BigQuiet
namespace Go.Proofs.YthpbipebpaeagaaDoor
set_option maxRecDepth 100000
open Go.RowKit

theorem carry_lm {x : Lm} (h : x.wide) (w : World) : Calls Tryd.prog 64 #[.agg (EL x).toArray] w fun e w' => e = .returned (.agg (EL (crL x)).toArray) ∧ Below w.heap.size w w' :=
  carry_any x.a x.b x.c x.d x.e h.a h.b h.c h.d h.e w
theorem EL_tabs (x : Lm) : Tabs .u64 x.get 5 = EL x := rfl
theorem EL_get (x : Lm) {k : Nat} (hk : k < 5) : (EL x)[k]? = some (.int .u64 ((x.get k : Nat) : Int)) := by
  rw [← EL_tabs]; exact Tabs_get _ _ _ hk
theorem EL_one (x : Lm) : (EL x).toArray.all (·.oneCell') = true := by rw [List.all_toArray]; rfl
theorem EL_sz (x y : Lm) : (EL x).toArray.size = (EL y).toArray.size := rfl
theorem el_size : (Tryd.prog.info? 26).map (·.size) = some 5 := by kernel_rfl
theorem l5_size : (Tryd.prog.info? 24).map (·.size) = some 5 := by kernel_rfl
theorem el_info (x : Lm) : (Tryd.prog.info? 26).map (·.size) = some (EL x).toArray.size := el_size.trans rfl
theorem l5_info (x : Lm) : (Tryd.prog.info? 24).map (·.size) = some (EL x).toArray.size := l5_size.trans rfl
theorem el_build (x : Lm) (w : World) : (Instr.build 26 #[(0, .agg (EL x).toArray)]).run Tryd.prog w = .ok (.agg (EL x).toArray) w := run_build w 26 _ _ (by kernel_rfl)
theorem l5_i0 (x : Lm) (w : World) : (Instr.index 24 (.agg (EL x).toArray) (.int .i64 0)).run Tryd.prog w = .ok (.int .u64 ((x.get 0 : Nat) : Int)) w := by kernel_rfl
theorem l5_i1 (x : Lm) (w : World) : (Instr.index 24 (.agg (EL x).toArray) (.int .i64 1)).run Tryd.prog w = .ok (.int .u64 ((x.get 1 : Nat) : Int)) w := by kernel_rfl
theorem l5_i2 (x : Lm) (w : World) : (Instr.index 24 (.agg (EL x).toArray) (.int .i64 2)).run Tryd.prog w = .ok (.int .u64 ((x.get 2 : Nat) : Int)) w := by kernel_rfl
theorem l5_i3 (x : Lm) (w : World) : (Instr.index 24 (.agg (EL x).toArray) (.int .i64 3)).run Tryd.prog w = .ok (.int .u64 ((x.get 3 : Nat) : Int)) w := by kernel_rfl
theorem l5_i4 (x : Lm) (w : World) : (Instr.index 24 (.agg (EL x).toArray) (.int .i64 4)).run Tryd.prog w = .ok (.int .u64 ((x.get 4 : Nat) : Int)) w := by kernel_rfl
theorem l5_index (x : Lm) {k : Nat} (hk : k < 5) (w : World) : (Instr.index 24 (.agg (EL x).toArray) (.int .i64 (k : Int))).run Tryd.prog w = .ok (.int .u64 ((x.get k : Nat) : Int)) w :=
  match k, hk with
  | 0, _ => l5_i0 x w
  | 1, _ => l5_i1 x w
  | 2, _ => l5_i2 x w
  | 3, _ => l5_i3 x w
  | 4, _ => l5_i4 x w
/-- Zeros, as they are laid. -/
theorem EL_zero : EL zeL = [.int .u64 0, .int .u64 0, .int .u64 0, .int .u64 0, .int .u64 0] := rfl
theorem Tab_5 (f : Nat → Nat) : Tab .u64 f 5 0 = [.int .u64 0, .int .u64 0, .int .u64 0, .int .u64 0, .int .u64 0] := by rw [Tab_zero]; rfl

theorem pAdd_get (x y : Lm) (k : Nat) : (pAdd x y).get k = x.get k + y.get k := by
  match k with
  | 0 => rfl
  | 1 => rfl
  | 2 => rfl
  | 3 => rfl
  | _ + 4 => rfl


set_option maxHeartbeats 1600000 in
theorem add_any {x y : Lm} (hx : x.ok) (hy : y.ok) (w : World) :
    Calls Tryd.prog 27 #[.agg (EL x).toArray, .agg (EL y).toArray] w fun e w' => e = .returned (.agg (EL (addL x y)).toArray) ∧ Below w.heap.size w w' := by
  unfold addL
  have hcr := carry_lm (pAdd_wide hx hy)
  have hbox : ∀ X Y Z, Row ((((w.alloc (.cells (EL x).toArray 26)).alloc X).alloc Y).alloc Z) w.heap.size 26 (EL x) := fun _ _ _ => (((Row.new w (EL x) _).alloc _).alloc _).alloc _
  have HBOX := Lib.hid hbox
  clear hbox
  have hS4 := el_info
  have hS5 := l5_info
  have hbd := el_build (crL (pAdd x y))
  have HX := Lib.hid hx
  have HY := Lib.hid hy
  have HCR := Lib.hid hcr
  have HS4 := Lib.hid hS4
  have HS5 := Lib.hid hS5
  have HBD := Lib.hid hbd
  have HIX := Lib.hid (fun k (hk : k < 5) => l5_index x hk)
  clear hx hy hcr hS4 hS5 hbd
  go_enter Tryd.func27, Tryd.ntmps27
  go_wp2_with (refine wpList_load_row rfl 24 (.tmp 8) rfl w.heap.size rfl 26 _ (0, 0) _ (HBOX.out _ _ _) Tryd.underlying24 rfl (HS5.out _) ?_)
  go_loopw [10] (fun i wr => ∃ k : Nat, k ≤ 5 ∧ i = .int .i64 k ∧ Row wr (w.heap.size + 1) 26 (EL y) ∧ Row wr (w.heap.size + 1 + 1 + 1) 24 (Tab .u64 (pAdd x y).get 5 k) ∧ Row wr (w.heap.size + 1 + 1) 26 (EL zeL) ∧ Below w.heap.size w wr) (fun i _ => 5 - (intOf i).toNat)
  case atStart =>
    refine ⟨0, Nat.zero_le _, rfl, ((Row.new1 w _ _ _).alloc _).alloc _, ?_, (Row.new2 w _ _ _ _).alloc _, Below.alloc4 _ _ _ _ _⟩
    rw [Tab_5]
    exact Row.new3 w _ _ _ _ _
  case round =>
    obtain ⟨k, hkn, rfl, hy, hl, hres, hbe⟩ := hrel
    by_cases hlt : k < 5
    · have hcy := hy.cell (EL_get y hlt)
      have hold := hl.cell (Tab_get .u64 (pAdd x y).get 5 k hlt)
      have hfree := hl.free k
      have hset := hl.set k (.int .u64 (((pAdd x y).get k : Nat) : Int))
      rw [Tab_set _ _ _ hlt] at hset
      have hy2 := hy.setCell (p := ⟨w.heap.size + 1 + 1 + 1, k, none⟩) (by show _ ≠ w.heap.size + 1 + 1 + 1; omega) (.int .u64 (((pAdd x y).get k : Nat) : Int))
      have hres2 := hres.setCell (p := ⟨w.heap.size + 1 + 1 + 1, k, none⟩) (by show _ ≠ w.heap.size + 1 + 1 + 1; omega) (.int .u64 (((pAdd x y).get k : Nat) : Int))
      have hb2 := hbe.setCell (p := ⟨w.heap.size + 1 + 1 + 1, k, none⟩) (by simp; omega) (.int .u64 (((pAdd x y).get k : Nat) : Int))
      have hix := HIX.out k hlt
      have lx := Lm.get_lt HX.out k
      have ly := Lm.get_lt HY.out k
      have hcalc : (((pAdd x y).get k : Nat) : Int) = ((x.get k : Nat) : Int) + ((y.get k : Nat) : Int) := by rw [pAdd_get]; omega
      rw [hcalc] at hset hy2 hres2 hb2
      generalize x.get k = xk at *
      generalize y.get k = yk at *
      have b0 : (0 : Int) ≤ (k : Int) := by omega
      have b1 : (k : Int) < 5 := by omega
      have HSET := Lib.hid hset
      have HY2 := Lib.hid hy2
      have HRES2 := Lib.hid hres2
      have HB2 := Lib.hid hb2
      clear hy hl hres hbe hset hy2 hres2 hb2 hcalc
      go_wp2_with fail
      go_roundw
      case rel => exact ⟨k + 1, by omega, by go_num, HY2.out, HSET.out, HRES2.out, HB2.out⟩
      case measure => simp [intOf]; omega
    · obtain rfl : k = 5 := by omega
      rw [Tab_done, EL_tabs] at hl
      have HROW := Lib.hid hl
      have HRES := Lib.hid hres
      have HBE := Lib.hid hbe
      clear hl hres hbe hy
      go_wp2_with (refine wpList_load_row rfl 24 (.tmp 5) rfl (w.heap.size + 1 + 1 + 1) rfl 24 _ (0, 0) _ HROW.out Tryd.underlying24 rfl (HS5.out _) ?_)
      refine (HCR.out _).mono ?_
      rintro e w5 ⟨rfl, hb5⟩
      have HRES5 := Lib.hid (HRES.out.belowAll hb5)
      have HBE5 := Lib.hid (HBE.out.trans (hb5.mono HBE.out.size))
      clear hb5
      go_wp2_with (first
        | (refine wpList_build1 rfl 26 (.tmp 24) rfl (.agg (EL (crL (pAdd x y))).toArray) (.agg (EL (crL (pAdd x y))).toArray) rfl (HBD.out _) ?_)
        | (refine wpList_store_row rfl 26 (.tmp 4) (.tmp 25) rfl (w.heap.size + 1 + 1) _ rfl rfl 26 _ HRES5.out (HS4.out _) (EL_sz _ _) (EL_one _) ?_))
      have hgot := setRow_heap w5 (w.heap.size + 1 + 1) _ (EL (crL (pAdd x y))).toArray _ _ HRES5.out
      refine bodyPost_ret (results_cell_row (by rfl) _ _ (w.heap.size + 1 + 1) _ _ _ _ (by rfl) hgot Tryd.underlying26 rfl (HS4.out _)) rfl ?_
      exact ⟨rfl, below_setRow HBE5.out (by omega) _⟩

end Go.Proofs.YthpbipebpaeagaaDoor
