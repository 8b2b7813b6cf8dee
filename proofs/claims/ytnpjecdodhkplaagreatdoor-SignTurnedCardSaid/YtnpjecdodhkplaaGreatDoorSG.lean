import Derived.Deep.QuietTactic
import Derived.BigQuiet
import Derived.Deep.Slices
import Derived.ProofKit
import Derived.ShutString
import Derived.ChangeOld
import Derived.Test.YtnpjecdodhkplaaGreatDoorSF
namespace Go.Proofs.YtnpjecdodhkplaaGreatDoor
set_option maxRecDepth 100000
set_option linter.unusedSimpArgs false
open Go.RowKit
open List renaming setIfInBounds_toArray → yA, set_cons_zero → yB, set_cons_succ → yC
open Lib renaming hid → yH
theorem carry_lm {x : Lm} (h : x.wide) (w : World) : Calls Tryz.prog 93 #[.agg (EL x).toArray] w fun e w' => e = .returned (.agg (EL (crL x)).toArray) ∧ Below w.heap.size w w' :=
 carry_any x.a x.b x.c x.d x.e h.a h.b h.c h.d h.e w
theorem EL_tabs (x : Lm) : Tabs .u64 x.get 5 = EL x := rfl
theorem EL_get (x : Lm) {k : Nat} (hk : k < 5) : (EL x)[k]? = some (.int .u64 ((x.get k : Nat) : Int)) := by
 rw [← EL_tabs]; exact Tabs_get _ _ _ hk
theorem EL_one (x : Lm) : (EL x).toArray.all (·.oneCell') = true := by rw [List.all_toArray]; rfl
theorem EL_sz (x y : Lm) : (EL x).toArray.size = (EL y).toArray.size := rfl
theorem el_size : (Tryz.prog.info? 62).map (·.size) = some 5 := by kernel_rfl
theorem l5_size : (Tryz.prog.info? 60).map (·.size) = some 5 := by kernel_rfl
theorem el_info (x : Lm) : (Tryz.prog.info? 62).map (·.size) = some (EL x).toArray.size := el_size.trans rfl
theorem l5_info (x : Lm) : (Tryz.prog.info? 60).map (·.size) = some (EL x).toArray.size := l5_size.trans rfl
theorem el_build (x : Lm) (w : World) : (Instr.build 62 #[(0, .agg (EL x).toArray)]).run Tryz.prog w = .ok (.agg (EL x).toArray) w := run_build w 62 _ _ (by kernel_rfl)
theorem l5_i0 (x : Lm) (w : World) : (Instr.index 60 (.agg (EL x).toArray) (.int .i64 0)).run Tryz.prog w = .ok (.int .u64 ((x.get 0 : Nat) : Int)) w := by kernel_rfl
theorem l5_i1 (x : Lm) (w : World) : (Instr.index 60 (.agg (EL x).toArray) (.int .i64 1)).run Tryz.prog w = .ok (.int .u64 ((x.get 1 : Nat) : Int)) w := by kernel_rfl
theorem l5_i2 (x : Lm) (w : World) : (Instr.index 60 (.agg (EL x).toArray) (.int .i64 2)).run Tryz.prog w = .ok (.int .u64 ((x.get 2 : Nat) : Int)) w := by kernel_rfl
theorem l5_i3 (x : Lm) (w : World) : (Instr.index 60 (.agg (EL x).toArray) (.int .i64 3)).run Tryz.prog w = .ok (.int .u64 ((x.get 3 : Nat) : Int)) w := by kernel_rfl
theorem l5_i4 (x : Lm) (w : World) : (Instr.index 60 (.agg (EL x).toArray) (.int .i64 4)).run Tryz.prog w = .ok (.int .u64 ((x.get 4 : Nat) : Int)) w := by kernel_rfl
theorem l5_index (x : Lm) {k : Nat} (hk : k < 5) (w : World) : (Instr.index 60 (.agg (EL x).toArray) (.int .i64 (k : Int))).run Tryz.prog w = .ok (.int .u64 ((x.get k : Nat) : Int)) w :=
 match k, hk with
 | 0, _ => l5_i0 x w
 | 1, _ => l5_i1 x w
 | 2, _ => l5_i2 x w
 | 3, _ => l5_i3 x w
 | 4, _ => l5_i4 x w
theorem Tab_5 (f : Nat → Nat) : Tab .u64 f 5 0 = [.int .u64 0, .int .u64 0, .int .u64 0, .int .u64 0, .int .u64 0] := by rw [Tab_zero]; rfl
theorem pAdd_get (x y : Lm) (k : Nat) : (pAdd x y).get k = x.get k + y.get k := by
 match k with
 | 0 => rfl
 | 1 => rfl
 | 2 => rfl
 | 3 => rfl
 | _ + 4 => rfl
set_option maxHeartbeats 1600000 in
theorem add_any {x y : Lm} (hx : x.ok) (hy : y.ok) (w : World) :
  Calls Tryz.prog 111 #[.agg (EL x).toArray, .agg (EL y).toArray] w fun e w' => e = .returned (.agg (EL (addL x y)).toArray) ∧ Below w.heap.size w w' := by
 unfold addL
 have hcr := carry_lm (pAdd_wide hx hy)
 have hbox : ∀ X Y Z, Row ((((w.alloc (.cells (EL x).toArray 62)).alloc X).alloc Y).alloc Z) w.heap.size 62 (EL x) := fun _ _ _ => (((Row.new w (EL x) _).alloc _).alloc _).alloc _
 have HBOX := yH hbox
 clear hbox
 have hS4 := el_info
 have hS5 := l5_info
 have hbd := el_build (crL (pAdd x y))
 have HX := yH hx
 have HY := yH hy
 have HCR := yH hcr
 have HS4 := yH hS4
 have HS5 := yH hS5
 have HBD := yH hbd
 have HIX := yH (fun k (hk : k < 5) => l5_index x hk)
 clear hx hy hcr hS4 hS5 hbd
 go_enter Tryz.func111, Tryz.ntmps111
 go_wp2_with (refine wpList_load_row rfl 60 (.tmp 8) rfl w.heap.size rfl 62 _ (0, 0) _ (HBOX.out _ _ _) Tryz.underlying60 rfl (HS5.out _) ?_)
 go_loopw [10] (fun i wr => ∃ k : Nat, k ≤ 5 ∧ i = .int .i64 k ∧ Row wr (w.heap.size + 1) 62 (EL y) ∧ Row wr (w.heap.size + 1 + 1 + 1) 60 (Tab .u64 (pAdd x y).get 5 k) ∧ Row wr (w.heap.size + 1 + 1) 62 (EL zeL) ∧ Below w.heap.size w wr) (fun i _ => 5 - (intOf i).toNat)
 case atStart =>
  refine ⟨0, Nat.zero_le _, rfl, ((Row.new1 w _ _ _).alloc _).alloc _, ?_, (Row.new2 w _ _ _ _).alloc _, Below.alloc4 _ _ _ _ _⟩
  rw [Tab_5]
  exact Row.new3 w _ _ _ _ _
 case round =>
  obtain ⟨k, hkn, rfl, hy, hl, hres, hbe⟩ := hrel
  by_cases hlt : k < 5
  ·have hcy := hy.cell (EL_get y hlt)
   have hold := hl.cell (Tab_get .u64 (pAdd x y).get 5 k hlt)
   have hfree := hl.free k
   have hset := hl.set k (.int .u64 (((pAdd x y).get k : Nat) : Int))
   rw [Tab_set _ _ _ hlt] at hset
   have hy2 := hy.setCell (p := ⟨w.heap.size + 1 + 1 + 1, k, none⟩) (by show _ ≠ w.heap.size + 1 + 1 + 1; omega) (.int .u64 (((pAdd x y).get k : Nat) : Int))
   have hres2 := hres.setCell (p := ⟨w.heap.size + 1 + 1 + 1, k, none⟩) (by show _ ≠ w.heap.size + 1 + 1 + 1; omega) (.int .u64 (((pAdd x y).get k : Nat) : Int))
   have hb2 := hbe.setCell (p := ⟨w.heap.size + 1 + 1 + 1, k, none⟩) (by simp; omega) (.int .u64 (((pAdd x y).get k : Nat) : Int))
   have hix := HIX.out k hlt
   have lx := Lm.get_lt HX.out k
   have ly := Lm.get_lt HY.out k
   have hcalc : (((pAdd x y).get k : Nat) : Int) = ((x.get k : Nat) : Int) + ((y.get k : Nat) : Int) := by rw [pAdd_get]; omega
   rw [hcalc] at hset hy2 hres2 hb2
   generalize x.get k = xk at *
   generalize y.get k = yk at *
   have b0 : (0 : Int) ≤ (k : Int) := by omega
   have b1 : (k : Int) < 5 := by omega
   have HSET := yH hset
   have HY2 := yH hy2
   have HRES2 := yH hres2
   have HB2 := yH hb2
   clear hy hl hres hbe hset hy2 hres2 hb2 hcalc
   go_wp2_with fail
   go_roundw
   case rel => exact ⟨k + 1, by omega, by go_num, HY2.out, HSET.out, HRES2.out, HB2.out⟩
   case measure => simp [intOf]; omega
  ·obtain rfl : k = 5 := by omega
   rw [Tab_done, EL_tabs] at hl
   have HROW := yH hl
   have HRES := yH hres
   have HBE := yH hbe
   clear hl hres hbe hy
   go_wp2_with (refine wpList_load_row rfl 60 (.tmp 5) rfl (w.heap.size + 1 + 1 + 1) rfl 60 _ (0, 0) _ HROW.out Tryz.underlying60 rfl (HS5.out _) ?_)
   refine (HCR.out _).mono ?_
   rintro e w5 ⟨rfl, hb5⟩
   have HRES5 := yH (HRES.out.belowAll hb5)
   have HBE5 := yH (HBE.out.trans (hb5.mono HBE.out.size))
   clear hb5
   go_wp2_with (first
    | (refine wpList_build1 rfl 62 (.tmp 24) rfl (.agg (EL (crL (pAdd x y))).toArray) (.agg (EL (crL (pAdd x y))).toArray) rfl (HBD.out _) ?_)
    | (refine wpList_store_row rfl 62 (.tmp 4) (.tmp 25) rfl (w.heap.size + 1 + 1) _ rfl rfl 62 _ HRES5.out (HS4.out _) (EL_sz _ _) (EL_one _) ?_))
   have hgot := setRow_heap w5 (w.heap.size + 1 + 1) _ (EL (crL (pAdd x y))).toArray _ _ HRES5.out
   refine bodyPost_ret (results_cell_row (by rfl) _ _ (w.heap.size + 1 + 1) _ _ _ _ (by rfl) hgot Tryz.underlying62 rfl (HS4.out _)) rfl ?_
   exact ⟨rfl, below_setRow HBE5.out (by omega) _⟩
def enL : Lm := ⟨9007199254740916, 9007199254740988, 9007199254740988, 9007199254740988, 9007199254740988⟩
theorem pSub_get (x y : Lm) (k : Nat) : (pSub x y).get k = x.get k + enL.get k - y.get k := by
 match k with
 | 0 => rfl
 | 1 => rfl
 | 2 => rfl
 | 3 => rfl
 | _ + 4 => rfl
theorem enL_get {k : Nat} (hk : k < 5) : 9007199254740916 ≤ enL.get k ∧ enL.get k ≤ 9007199254740988 := by
 match k, hk with
 | 0, _ => decide
 | 1, _ => decide
 | 2, _ => decide
 | 3, _ => decide
 | 4, _ => decide
def En (w : World) : Prop := ∃ t, w.heap[6]? = some (.cells (EL enL).toArray t (0, 0))
theorem En.lt {w : World} (h : En w) : 6 < w.heap.size := by
 obtain ⟨t, h⟩ := h
 exact (Array.getElem?_eq_some_iff.1 h).1
theorem En.below {w w' : World} {B : Nat} (h : En w) (hb : Below B w w') (hB : 6 < B) : En w' := by
 obtain ⟨t, h⟩ := h
 exact ⟨t, (hb.block _ hB).trans h⟩
theorem En.belowAll {w w' : World} (h : En w) (hb : Below w.heap.size w w') : En w' := h.below hb h.lt
set_option maxHeartbeats 1600000 in
theorem sub_any {x y : Lm} (hx : x.ok) (hy : y.ok) (w : World) (hq : En w) :
  Calls Tryz.prog 110 #[.agg (EL x).toArray, .agg (EL y).toArray] w fun e w' => e = .returned (.agg (EL (subL x y)).toArray) ∧ Below w.heap.size w w' := by
 unfold subL
 have hcr := carry_lm (pSub_wide (y := y) hx)
 have hbox : ∀ X Y Z, Row ((((w.alloc (.cells (EL x).toArray 62)).alloc X).alloc Y).alloc Z) w.heap.size 62 (EL x) := fun _ _ _ => (((Row.new w (EL x) _).alloc _).alloc _).alloc _
 have HBOX := yH hbox
 clear hbox
 have hS4 := el_info
 have hS5 := l5_info
 have hbd := el_build (crL (pSub x y))
 have HQ := yH hq
 have HX := yH hx
 have HY := yH hy
 have HCR := yH hcr
 have HS4 := yH hS4
 have HS5 := yH hS5
 have HBD := yH hbd
 have HIX := yH (fun k (hk : k < 5) => l5_index x hk)
 clear hx hy hcr hS4 hS5 hbd hq
 go_enter Tryz.func110, Tryz.ntmps110
 go_wp2_with (refine wpList_load_row rfl 60 (.tmp 8) rfl w.heap.size rfl 62 _ (0, 0) _ (HBOX.out _ _ _) Tryz.underlying60 rfl (HS5.out _) ?_)
 go_loopw [10] (fun i wr => ∃ k : Nat, k ≤ 5 ∧ i = .int .i64 k ∧ Row wr (w.heap.size + 1) 62 (EL y) ∧ Row wr (w.heap.size + 1 + 1 + 1) 60 (Tab .u64 (pSub x y).get 5 k) ∧ Row wr (w.heap.size + 1 + 1) 62 (EL zeL) ∧ Below w.heap.size w wr) (fun i _ => 5 - (intOf i).toNat)
 case atStart =>
  refine ⟨0, Nat.zero_le _, rfl, ((Row.new1 w _ _ _).alloc _).alloc _, ?_, (Row.new2 w _ _ _ _).alloc _, Below.alloc4 _ _ _ _ _⟩
  rw [Tab_5]
  exact Row.new3 w _ _ _ _ _
 case round =>
  obtain ⟨k, hkn, rfl, hy, hl, hres, hbe⟩ := hrel
  by_cases hlt : k < 5
  ·have hcy := hy.cell (EL_get y hlt)
   have hold := hl.cell (Tab_get .u64 (pSub x y).get 5 k hlt)
   have hfree := hl.free k
   have hset := hl.set k (.int .u64 (((pSub x y).get k : Nat) : Int))
   rw [Tab_set _ _ _ hlt] at hset
   have hy2 := hy.setCell (p := ⟨w.heap.size + 1 + 1 + 1, k, none⟩) (by show _ ≠ w.heap.size + 1 + 1 + 1; omega) (.int .u64 (((pSub x y).get k : Nat) : Int))
   have hres2 := hres.setCell (p := ⟨w.heap.size + 1 + 1 + 1, k, none⟩) (by show _ ≠ w.heap.size + 1 + 1 + 1; omega) (.int .u64 (((pSub x y).get k : Nat) : Int))
   have hb2 := hbe.setCell (p := ⟨w.heap.size + 1 + 1 + 1, k, none⟩) (by simp; omega) (.int .u64 (((pSub x y).get k : Nat) : Int))
   have hix := HIX.out k hlt
   have lx := Lm.get_lt HX.out k
   have ly := Lm.get_lt HY.out k
   obtain ⟨tq, hqr⟩ := HQ.out.below hbe HQ.out.lt
   have hcq : wr.cell? ⟨6, k, none⟩ = some (.int .u64 ((enL.get k : Nat) : Int)) := by
    rw [cell_of_row wr 6 k _ _ _ hqr, List.getElem?_toArray]
    exact EL_get enL hlt
   have lz := enL_get hlt
   have hcalc : (((pSub x y).get k : Nat) : Int) = ((x.get k : Nat) : Int) + ((enL.get k : Nat) : Int) - ((y.get k : Nat) : Int) := by rw [pSub_get]; omega
   rw [hcalc] at hset hy2 hres2 hb2
   generalize enL.get k = zk at *
   clear hqr
   generalize x.get k = xk at *
   generalize y.get k = yk at *
   have b0 : (0 : Int) ≤ (k : Int) := by omega
   have b1 : (k : Int) < 5 := by omega
   have HSET := yH hset
   have HY2 := yH hy2
   have HRES2 := yH hres2
   have HB2 := yH hb2
   clear hy hl hres hbe hset hy2 hres2 hb2 hcalc
   go_wp2_with fail
   go_region
   go_wp2_with fail
   go_roundw
   case rel => exact ⟨k + 1, by omega, by go_num, HY2.out, HSET.out, HRES2.out, HB2.out.drew⟩
   case measure => simp [intOf]; omega
  ·obtain rfl : k = 5 := by omega
   rw [Tab_done, EL_tabs] at hl
   have HROW := yH hl
   have HRES := yH hres
   have HBE := yH hbe
   clear hl hres hbe hy
   go_wp2_with (refine wpList_load_row rfl 60 (.tmp 5) rfl (w.heap.size + 1 + 1 + 1) rfl 60 _ (0, 0) _ HROW.out Tryz.underlying60 rfl (HS5.out _) ?_)
   refine (HCR.out _).mono ?_
   rintro e w5 ⟨rfl, hb5⟩
   have HRES5 := yH (HRES.out.belowAll hb5)
   have HBE5 := yH (HBE.out.trans (hb5.mono HBE.out.size))
   clear hb5
   go_wp2_with (first
    | (refine wpList_build1 rfl 62 (.tmp 28) rfl (.agg (EL (crL (pSub x y))).toArray) (.agg (EL (crL (pSub x y))).toArray) rfl (HBD.out _) ?_)
    | (refine wpList_store_row rfl 62 (.tmp 4) (.tmp 29) rfl (w.heap.size + 1 + 1) _ rfl rfl 62 _ HRES5.out (HS4.out _) (EL_sz _ _) (EL_one _) ?_))
   have hgot := setRow_heap w5 (w.heap.size + 1 + 1) _ (EL (crL (pSub x y))).toArray _ _ HRES5.out
   refine bodyPost_ret (results_cell_row (by rfl) _ _ (w.heap.size + 1 + 1) _ _ _ _ (by rfl) hgot Tryz.underlying62 rfl (HS4.out _)) rfl ?_
   exact ⟨rfl, below_setRow HBE5.out (by omega) _⟩
set_option maxHeartbeats 1600000 in
theorem neg_any {x : Lm} (hx : x.ok) (w : World) (hq : En w) :
  Calls Tryz.prog 79 #[.agg (EL x).toArray] w fun e w' => e = .returned (.agg (EL (negL x)).toArray) ∧ Below w.heap.size w w' := by
 unfold negL
 have hS4 := el_info
 have hsub := fun wx hqx => sub_any (x := zeL) (y := x) zeL_ok hx wx hqx
 have HS4 := yH hS4
 have HSUB := yH hsub
 have HQ := yH hq
 clear hx hS4 hsub hq
 go_enter Tryz.func79, Tryz.ntmps79
 have hbox : ∀ X, Row ((w.alloc (.cells (EL x).toArray 62)).alloc X) w.heap.size 62 (EL x) := fun _ => (Row.new w (EL x) _).alloc _
 have HBOX := yH hbox
 clear hbox
 go_wp2_with (refine wpList_load_row rfl 62 (.tmp 1) rfl w.heap.size rfl 62 _ (0, 0) _ (HBOX.out _) Tryz.underlying62 rfl (HS4.out _) ?_)
 refine (HSUB.out _ (HQ.out.belowAll (Below.alloc2 _ _ _))).mono ?_
 rintro e w5 ⟨rfl, hb5⟩
 have HR5 := yH ((Row.new1 w (.cells (EL x).toArray 62) (EL zeL) 62).belowAll hb5)
 have HB5 := yH ((Below.alloc2 w (.cells (EL x).toArray 62) (.cells (EL zeL).toArray 62)).trans (hb5.mono (Below.alloc2 w (.cells (EL x).toArray 62) (.cells (EL zeL).toArray 62)).size))
 clear hb5
 go_wp2_with (refine wpList_store_row rfl 62 (.tmp 2) (.tmp 5) rfl (w.heap.size + 1) _ rfl rfl 62 _ HR5.out (HS4.out _) (EL_sz _ _) (EL_one _) ?_)
 have hgot := setRow_heap w5 (w.heap.size + 1) _ (EL (subL zeL x)).toArray _ _ HR5.out
 refine bodyPost_ret (results_cell_row (by rfl) _ _ (w.heap.size + 1) _ _ _ _ (by rfl) hgot Tryz.underlying62 rfl (HS4.out _)) rfl ?_
 exact ⟨rfl, below_setRow HB5.out (by omega) _⟩
theorem w8u (n : Int) (h₀ : 0 ≤ n) (h₁ : n < 2 ^ 8) : IntKind.u8.wrap n = n := by rw [IntKind.wrap_u8]; omega
theorem mask7 (l : Nat) (h : l < 256) : bits .and .u8 (l : Int) 127 = ((l % 128 : Nat) : Int) := by
 have h1 := bits_mask .u8 8 (by decide) w8u 7 (by decide) (l : Int) (by omega) (by omega)
 have h2 : ((l % 128 : Nat) : Int) = (l : Int) % 2 ^ 7 := by omega
 rw [h2]
 exact h1
theorem by_info (N : Nat) : (Tryz.prog.info? 22).map (·.size) = some (By N 32).toArray.size := by rw [List.size_toArray, By_length]; kernel_rfl
theorem u8_size : (Tryz.prog.info? 5).map (·.size) = some 1 := by kernel_rfl
theorem by_index (N : Nat) {k : Nat} (hk : k < 32) (w : World) : (Instr.index 22 (.agg (By N 32).toArray) (.int .i64 (k : Int))).run Tryz.prog w = .ok (.int .u8 ((byt N k : Nat) : Int)) w := by
 obtain ⟨i, hi⟩ := info_of_underlying Tryz.underlying5
 have hs : i.size = 1 := by
  have h := u8_size
  rw [hi] at h
  simpa using h
 exact run_index_int w Tryz.underlying22 hi hs Tryz.underlying5 _ k hk _ (by rw [List.getElem?_toArray]; exact By_get N 32 hk)
theorem By_set31 (N : Nat) : (By N 32).set 31 (.int .u8 ((byt N 31 % 128 : Nat) : Int)) = By (N % 57896044618658097711785492504343953926634992332820282019728792003956564819968) 32 := by
 refine By_ext _ 32 (by rw [List.length_set, By_length]) fun k hk => ?_
 rw [List.getElem?_set]
 by_cases e : 31 = k
 ·subst e
  rw [if_pos rfl, if_pos (by rw [By_length]; decide), byt_mod255_31]
 ·rw [if_neg e, By_get N 32 hk, byt_mod255 N (by omega)]
theorem ofl_next (N k j : Nat) : ofl N (k + 1) j = ofl N k j + if 8 * k / 51 = j then byt N k * 2 ^ (8 * k % 51) else 0 := rfl
theorem ofl_set (N : Nat) {k : Nat} (_hk : k < 32) : (Tabs .u64 (ofl N k) 5).set (8 * k / 51) (.int .u64 ((ofl N k (8 * k / 51) + byt N k * 2 ^ (8 * k % 51) : Nat) : Int)) = Tabs .u64 (ofl N (k + 1)) 5 := by
 refine List.ext_getElem? fun j => ?_
 by_cases hj : j < 5
 ·rw [List.getElem?_set, Tabs_get _ _ _ hj, Tabs_get _ _ _ hj, ofl_next]
  by_cases e : 8 * k / 51 = j
  ·rw [if_pos e, if_pos (by rw [Tabs_length]; omega), if_pos e, e]
  ·rw [if_neg e, if_neg e, Nat.add_zero]
 ·rw [List.getElem?_eq_none (by rw [List.length_set, Tabs_length]; omega), List.getElem?_eq_none (by rw [Tabs_length]; omega)]
theorem ofl_sum_lt (N : Nat) {k : Nat} (hk : k < 32) : ofl N k (8 * k / 51) + byt N k * 2 ^ (8 * k % 51) < 4611686018427387904 := by
 have h := ofl_mono N (8 * k / 51) (k := k + 1) (n := 32) (by omega)
 have h2 := ofl_lt N (8 * k / 51) (by omega)
 rw [ofl_next, if_pos rfl] at h
 omega
theorem raL_tabs (N : Nat) : Tabs .u64 (ofl N 32) 5 = EL (raL N) := rfl
set_option maxHeartbeats 3200000 in
theorem of_any (N : Nat) (w : World) :
  Calls Tryz.prog 57 #[.agg (By N 32).toArray] w fun e w' => e = .returned (.agg (EL (ofB N)).toArray) ∧ Below w.heap.size w w' := by
 unfold ofB
 have hset31 := By_set31 N
 have hb31 := byt_lt N 31
 have hmask := mask7 (byt N 31) hb31
 generalize N % 57896044618658097711785492504343953926634992332820282019728792003956564819968 = M at *
 have hcr := carry_lm (raL_wide M)
 have HCR := yH hcr
 have HS4 := yH el_info
 have HS5 := yH l5_info
 have HSB := yH by_info
 have HBD := yH (el_build (crL (raL M)))
 have HIX := yH (fun k (hk : k < 32) => by_index M hk)
 have c31 : ∀ X, ((w.alloc (.cells (By N 32).toArray 22)).alloc X).cell? ⟨w.heap.size, 31, none⟩ = some (.int .u8 ((byt N 31 : Nat) : Int)) := fun X => ((Row.new w (By N 32) 22).alloc X).cell (By_get N 32 (by decide))
 have f31 : ∀ X, ((w.alloc (.cells (By N 32).toArray 22)).alloc X).frozen? ⟨w.heap.size, 31, none⟩ = false := fun X => ((Row.new w (By N 32) 22).alloc X).free 31
 have hbox : ∀ X Y, Row (((w.alloc (.cells ((By N 32).set 31 (.int .u8 (((byt N 31 : Nat) : Int) % 128))).toArray 22)).alloc X).alloc Y) w.heap.size 22 (By M 32) := fun X Y => by
  have e : (((byt N 31 : Nat) : Int) % 128) = ((byt N 31 % 128 : Nat) : Int) := by omega
  rw [e, hset31]
  exact ((Row.new w (By M 32) 22).alloc X).alloc Y
 have HBOX := yH hbox
 clear hset31 hcr hbox
 go_enter Tryz.func57, Tryz.ntmps57
 go_wp2_with (refine wpList_load_row rfl 22 (.tmp 1) rfl w.heap.size rfl 22 _ (0, 0) _ (HBOX.out _ _) Tryz.underlying22 rfl (HSB.out _) ?_)
 go_loopw [11] (fun i wr => ∃ k : Nat, k ≤ 32 ∧ i = .int .i64 k ∧ Row wr (w.heap.size + 1 + 1) 60 (Tabs .u64 (ofl M k) 5) ∧ Row wr (w.heap.size + 1) 62 (EL zeL) ∧ Below w.heap.size w wr) (fun i _ => 32 - (intOf i).toNat)
 case atStart =>
  exact ⟨0, Nat.zero_le _, rfl, Row.new2 w _ _ _ _, (Row.new1 w _ _ _).alloc _, Below.alloc3 _ _ _ _⟩
 case round =>
  obtain ⟨k, hkn, rfl, hl, hres, hbe⟩ := hrel
  by_cases hlt : k < 32
  ·have hq5 : 8 * k / 51 < 5 := by omega
   have hold := hl.cell (Tabs_get .u64 (ofl M k) 5 hq5)
   have hfree := hl.free (8 * k / 51)
   have hset := hl.set (8 * k / 51) (.int .u64 ((ofl M k (8 * k / 51) + byt M k * 2 ^ (8 * k % 51) : Nat) : Int))
   rw [ofl_set M hlt] at hset
   have hres2 := hres.setCell (p := ⟨w.heap.size + 1 + 1, 8 * k / 51, none⟩) (by show _ ≠ w.heap.size + 1 + 1; omega) (.int .u64 ((ofl M k (8 * k / 51) + byt M k * 2 ^ (8 * k % 51) : Nat) : Int))
   have hb2 := hbe.setCell (p := ⟨w.heap.size + 1 + 1, 8 * k / 51, none⟩) (by simp; omega) (.int .u64 ((ofl M k (8 * k / 51) + byt M k * 2 ^ (8 * k % 51) : Nat) : Int))
   have hix := HIX.out k hlt
   have hbnd := ofl_sum_lt M hlt
   have hcal : IntKind.u64.wrap (((byt M k : Nat) : Int) * 2 ^ (8 * k % 51)) = ((byt M k * 2 ^ (8 * k % 51) : Nat) : Int) := by
    have e : ((byt M k : Nat) : Int) * 2 ^ (8 * k % 51) = ((byt M k * 2 ^ (8 * k % 51) : Nat) : Int) := by simp
    rw [e, IntKind.wrap_u64]
    omega
   have hm51 : 8 * k % 51 < 51 := Nat.mod_lt _ (by decide)
   have hd : Int.tdiv (8 * (k : Int)) 51 = ((8 * k / 51 : Nat) : Int) := by rw [Int.tdiv_eq_ediv_of_nonneg (by omega)]; omega
   have hm : Int.tmod (8 * (k : Int)) 51 = ((8 * k % 51 : Nat) : Int) := by rw [Int.tmod_eq_emod_of_nonneg (by omega)]; omega
   have hd' : (8 * (k : Int)) / 51 = ((8 * k / 51 : Nat) : Int) := by omega
   have hm' : (8 * (k : Int)) % 51 = ((8 * k % 51 : Nat) : Int) := by omega
   have hlb := byt_lt M k
   generalize hsh : byt M k * 2 ^ (8 * k % 51) = sh at *
   generalize hoo : ofl M k (8 * k / 51) = oo at *
   generalize hqq : 8 * k / 51 = q at *
   generalize hrr : 8 * k % 51 = r at *
   generalize hbb : byt M k = bk at *
   clear hsh hoo hqq hrr hbb
   have b0 : (0 : Int) ≤ (k : Int) := by omega
   have b1 : (k : Int) < 32 := by omega
   have b2 : (0 : Int) ≤ (q : Int) := by omega
   have b3 : (q : Int) < 5 := by omega
   have b4 : (0 : Int) ≤ (r : Int) := by omega
   have b5 : (r : Int) < 64 := by omega
   have hw1 : IntKind.i64.wrap ((q : Nat) : Int) = (q : Int) := IntWalk.i64_in _ (by omega)
   have HSET := yH hset
   have HRES2 := yH hres2
   have HB2 := yH hb2
   have HCAL := yH hcal
   have HBND := yH hbnd
   clear hl hres hbe hset hres2 hb2 hcal hbnd
   go_wp2_with fail
   go_region
   have hsum : IntKind.u64.wrap ((oo : Int) + (sh : Int)) = ((oo + sh : Nat) : Int) := by
    have := HBND.out
    rw [IntKind.wrap_u64]
    omega
   rw [HCAL.out, hsum]
   have hset3 := HSET.out
   have hres3 := HRES2.out
   have hb3 := HB2.out.drew
   generalize wr.setCell ⟨w.heap.size + 1 + 1, q, none⟩ (Value.int .u64 ((oo + sh : Nat) : Int)) = wy at *
   have HSET3 := yH hset3
   have HRES3 := yH hres3
   have HB3 := yH hb3
   clear hset3 hres3 hb3 hsum hd hm hd' hm' hw1 hix hold hfree
   go_wp2_with fail
   go_roundw
   case rel => exact ⟨k + 1, by omega, by go_num, HSET3.out, HRES3.out, HB3.out⟩
   case measure => simp [intOf]; omega
  ·obtain rfl : k = 32 := by omega
   rw [raL_tabs] at hl
   have HROW := yH hl
   have HRES := yH hres
   have HBE := yH hbe
   clear hl hres hbe
   go_wp2_with (refine wpList_load_row rfl 60 (.tmp 3) rfl (w.heap.size + 1 + 1) rfl 60 _ (0, 0) _ HROW.out Tryz.underlying60 rfl (HS5.out _) ?_)
   refine (HCR.out _).mono ?_
   rintro e w5 ⟨rfl, hb5⟩
   have HRES5 := yH (HRES.out.belowAll hb5)
   have HBE5 := yH (HBE.out.trans (hb5.mono HBE.out.size))
   clear hb5
   go_wp2_with (first
    | (refine wpList_build1 rfl 62 (.tmp 30) rfl (.agg (EL (crL (raL M))).toArray) (.agg (EL (crL (raL M))).toArray) rfl (HBD.out _) ?_)
    | (refine wpList_store_row rfl 62 (.tmp 2) (.tmp 31) rfl (w.heap.size + 1) _ rfl rfl 62 _ HRES5.out (HS4.out _) (EL_sz _ _) (EL_one _) ?_))
   have hgot := setRow_heap w5 (w.heap.size + 1) _ (EL (crL (raL M))).toArray _ _ HRES5.out
   refine bodyPost_ret (results_cell_row (by rfl) _ _ (w.heap.size + 1) _ _ _ _ (by rfl) hgot Tryz.underlying62 rfl (HS4.out _)) rfl ?_
   exact ⟨rfl, below_setRow HBE5.out (by omega) _⟩
def lmx (y : Lm) (s k j : Nat) : Nat := if j < k then lout y s j else y.get j
theorem lmx_zero (y : Lm) (s : Nat) : Tabs .u64 (lmx y s 0) 5 = EL y := by
 rw [← EL_tabs]
 exact Tabs_congr _ fun i _ => by unfold lmx; rw [if_neg (by omega)]
theorem lmx_set (y : Lm) (s : Nat) {k : Nat} (hk : k < 5) : (Tabs .u64 (lmx y s k) 5).set k (.int .u64 ((lout y s k : Nat) : Int)) = Tabs .u64 (lmx y s (k + 1)) 5 := by
 refine List.ext_getElem? fun j => ?_
 by_cases hj : j < 5
 ·rw [List.getElem?_set, Tabs_get _ _ _ hj, Tabs_get _ _ _ hj]
  unfold lmx
  by_cases e : k = j
  ·subst e; rw [if_pos rfl, if_pos (by rw [Tabs_length]; exact hk), if_pos (by omega)]
  ·rw [if_neg e]
   by_cases h2 : j < k
   ·rw [if_pos h2, if_pos (by omega)]
   ·rw [if_neg h2, if_neg (by omega)]
 ·rw [List.getElem?_eq_none (by rw [List.length_set, Tabs_length]; omega), List.getElem?_eq_none (by rw [Tabs_length]; omega)]
theorem least_tabs {x : Lm} (h : x.ok) : Tabs .u64 (lmx (crL x) (cin (crL x) 19 5 * 19) 5) 5 = EL (ofN (nu x)) := by
 have e : EL (ofN (nu x)) = Tabs .u64 (dg (nu x)) 5 := rfl
 rw [e]
 refine Tabs_congr _ fun i hi => ?_
 unfold lmx
 rw [if_pos hi, least_lout h i hi]
theorem ok_wide {x : Lm} (h : x.ok) : x.wide := ⟨Nat.lt_of_lt_of_le h.a (by decide), Nat.lt_of_lt_of_le h.b (by decide), Nat.lt_of_lt_of_le h.c (by decide), Nat.lt_of_lt_of_le h.d (by decide), Nat.lt_of_lt_of_le h.e (by decide)⟩
set_option maxHeartbeats 3200000 in
theorem least_any {x : Lm} (hx : x.ok) (w : World) :
  Calls Tryz.prog 102 #[.agg (EL x).toArray] w fun e w' => e = .returned (.agg (EL (ofN (nu x))).toArray) ∧ Below w.heap.size w w' := by
 have hcr := carry_lm (ok_wide hx)
 have hlt := least_tabs hx
 have hyok := crL_ok (ok_wide hx)
 have hc5 := cin_lt hyok (s := 19) (by decide) 5
 have hc1 : cin (crL x) 19 5 ≤ 1 := by
  have hg := hyok.e
  have h4 := cin_lt hyok (s := 19) (by decide) 4
  show ((crL x).e + cin (crL x) 19 4) / 2251799813685248 ≤ 1
  obtain ⟨_, _, _, _, _⟩ := hx
  have he : (crL x).e ≤ 2251799813685248 := by simp only [crL]; omega
  omega
 clear hc5
 generalize crL x = y at *
 have HCR := yH hcr
 have HYOK := yH hyok
 have HLT := yH hlt
 have HC1 := yH hc1
 have HS5 := yH l5_info
 have HIX := yH (fun k (hk : k < 5) => l5_index y hk)
 clear hcr hlt hyok hc1
 go_enter Tryz.func102, Tryz.ntmps102
 have hbox : ∀ X, Row ((w.alloc (.cells (EL x).toArray 60)).alloc X) w.heap.size 60 (EL x) := fun X => (Row.new w (EL x) _).alloc X
 have HBOX := yH hbox
 clear hbox
 go_wp2_with (refine wpList_load_row rfl 60 (.tmp 1) rfl w.heap.size rfl 60 _ (0, 0) _ (HBOX.out _) Tryz.underlying60 rfl (HS5.out _) ?_)
 refine (HCR.out _).mono ?_
 rintro e w1 ⟨rfl, hb1⟩
 have hx1 := (HBOX.out (.cells (EL zeL).toArray 60)).belowAll hb1
 have hr1 := (Row.new1 w (.cells (EL x).toArray 60) (EL zeL) 60).belowAll hb1
 have hw1 := (Below.alloc2 w (.cells (EL x).toArray 60) (.cells (EL zeL).toArray 60)).trans (hb1.mono (Below.alloc2 w (.cells (EL x).toArray 60) (.cells (EL zeL).toArray 60)).size)
 have hx2 := hx1.setRow (EL y)
 have hr2 := hr1.setRowOther (k := w.heap.size) (by omega) (EL y).toArray
 have hw2 := below_setRow (g := w.heap.size) hw1 (Nat.le_refl _) (EL y).toArray
 have HX1 := yH hx1
 have HX2 := yH hx2
 have HR2 := yH hr2
 have HW2 := yH hw2
 clear hb1 hx1 hr1 hw1 hx2 hr2 hw2
 go_wp2_with (first
  | (refine wpList_store_row rfl 60 (.tmp 1) (.tmp 9) rfl w.heap.size _ rfl rfl 60 _ HX1.out (HS5.out _) (EL_sz _ _) (EL_one _) ?_)
  | (refine wpList_load_row rfl 60 (.tmp 1) rfl w.heap.size rfl 60 _ (0, 0) _ HX2.out Tryz.underlying60 rfl (HS5.out _) ?_))
 generalize w1.setRow w.heap.size (EL y).toArray = w2 at *
 go_loop [3, 11] (fun o i => ∃ k : Nat, k ≤ 5 ∧ i = .int .i64 k ∧ o = .int .u64 ((cin y 19 k : Nat) : Int)) (fun _ i => 5 - (intOf i).toNat)
 case atStart => exact ⟨0, Nat.zero_le _, rfl, rfl⟩
 case round =>
  obtain ⟨k, hkn, rfl, rfl⟩ := hrel
  by_cases hlt : k < 5
  ·have hix := HIX.out k hlt
   have lx := Lm.get_lt HYOK.out k
   have ly := cin_lt HYOK.out (s := 19) (by decide) k
   have hnx : (((y.get k : Nat) : Int) + ((cin y 19 k : Nat) : Int)) / 2251799813685248 = ((cin y 19 (k + 1) : Nat) : Int) := by
    show _ = (((y.get k + cin y 19 k) / 2251799813685248 : Nat) : Int)
    omega
   have HNX := yH hnx
   clear hnx
   generalize hzz : cin y 19 (k + 1) = z at *
   have HZ := yH hzz
   clear hzz
   generalize cin y 19 k = c at *
   generalize y.get k = g at *
   have b0 : (0 : Int) ≤ (k : Int) := by omega
   have b1 : (k : Int) < 5 := by omega
   go_wp2_with fail
   go_round
   case rel => exact ⟨k + 1, by omega, by go_num, by rw [HNX.out, ← HZ.out]⟩
   case measure => simp [intOf]; omega
  ·obtain rfl : k = 5 := by omega
   have hlt2 := HLT.out
   have hc1 := HC1.out
   have hc0 : cin y 19 5 * 19 < 2251799813685248 := by omega
   have HC0 := yH hc0
   have HLT2 := yH hlt2
   clear hlt2 hc0 hlt
   generalize hoo : cin y 19 5 = oo at *
   have hm19 : ((oo : Nat) : Int) * 19 = ((oo * 19 : Nat) : Int) := by omega
   have HM19 := yH hm19
   clear hoo hm19
   go_wp2_with (refine wpList_load_row rfl 60 (.tmp 1) rfl w.heap.size rfl 60 _ (0, 0) _ HX2.out Tryz.underlying60 rfl (HS5.out _) ?_)
   rw [HM19.out]
   generalize oo * 19 = sx at *
   clear HM19 hc1
   go_loopw [3, 22] (fun o i wr => ∃ k : Nat, k ≤ 5 ∧ i = .int .i64 k ∧ o = .int .u64 ((cin y sx k : Nat) : Int) ∧ Row wr w.heap.size 60 (Tabs .u64 (lmx y sx k) 5) ∧ Row wr (w.heap.size + 1) 60 (EL zeL) ∧ Below w.heap.size w wr) (fun _ i _ => 5 - (intOf i).toNat)
   case atStart => exact ⟨0, Nat.zero_le _, rfl, rfl, by rw [lmx_zero]; exact HX2.out, HR2.out, HW2.out⟩
   case round =>
    obtain ⟨k, hkn, rfl, rfl, hl, hres, hbe⟩ := hrel
    by_cases hlt : k < 5
    ·have hix := HIX.out k hlt
     have lx := Lm.get_lt HYOK.out k
     have ly := cin_lt HYOK.out HC0.out k
     have hold := hl.cell (Tabs_get .u64 (lmx y sx k) 5 hlt)
     have hfree := hl.free k
     have hset := hl.set k (.int .u64 ((lout y sx k : Nat) : Int))
     rw [lmx_set y sx hlt] at hset
     have hres2 := hres.setCell (p := ⟨w.heap.size, k, none⟩) (by show _ ≠ w.heap.size; omega) (.int .u64 ((lout y sx k : Nat) : Int))
     have hb2 := hbe.setCell (p := ⟨w.heap.size, k, none⟩) (by simp) (.int .u64 ((lout y sx k : Nat) : Int))
     have hnx : (((y.get k : Nat) : Int) + ((cin y sx k : Nat) : Int)) / 2251799813685248 = ((cin y sx (k + 1) : Nat) : Int) := by
      show _ = (((y.get k + cin y sx k) / 2251799813685248 : Nat) : Int)
      omega
     have hmk : bits .and .u64 (((y.get k : Nat) : Int) + ((cin y sx k : Nat) : Int)) 2251799813685247 = ((lout y sx k : Nat) : Int) := by
      have h := mask51 (y.get k + cin y sx k) (by omega)
      have e : ((y.get k + cin y sx k : Nat) : Int) = ((y.get k : Nat) : Int) + ((cin y sx k : Nat) : Int) := by omega
      rw [e] at h
      exact h
     generalize lout y sx k = s at *
     generalize hzz : cin y sx (k + 1) = z at *
     have HZ := yH hzz
     clear hzz
     generalize cin y sx k = c at *
     generalize y.get k = g at *
     generalize lmx y sx k k = old at *
     have b0 : (0 : Int) ≤ (k : Int) := by omega
     have b1 : (k : Int) < 5 := by omega
     have HNX := yH hnx
     have HMK := yH hmk
     have HSET := yH hset
     have HRES2 := yH hres2
     have HB2 := yH hb2
     clear hl hres hbe hset hres2 hb2 hnx hmk
     go_wp2_with fail
     go_roundw
     case rel =>
      rw [HMK.out, HNX.out]
      exact ⟨k + 1, by omega, by go_num, by rw [← HZ.out], HSET.out, HRES2.out, HB2.out⟩
     case measure => simp [intOf]; omega
    ·obtain rfl : k = 5 := by omega
     have hl2 := hl
     rw [HLT2.out] at hl2
     have HROW := yH hl2
     have HRES := yH hres
     have HBE := yH hbe
     clear hl hl2 hres hbe hlt
     go_wp2_with (first
      | (refine wpList_load_row rfl 60 (.tmp 1) rfl w.heap.size rfl 60 _ (0, 0) _ HROW.out Tryz.underlying60 rfl (HS5.out _) ?_)
      | (refine wpList_store_row rfl 60 (.tmp 2) (.tmp 37) rfl (w.heap.size + 1) _ rfl rfl 60 _ HRES.out (HS5.out _) (EL_sz _ _) (EL_one _) ?_))
     have hgot := setRow_heap wr (w.heap.size + 1) _ (EL (ofN (nu x))).toArray _ _ HRES.out
     refine bodyPost_ret (results_cell_row (by rfl) _ _ (w.heap.size + 1) _ _ _ _ (by rfl) hgot Tryz.underlying60 rfl (HS5.out _)) rfl ?_
     exact ⟨rfl, below_setRow HBE.out (by omega) _⟩
theorem ofN_get (N : Nat) {k : Nat} (hk : k < 5) : (ofN N).get k = dg N k :=
 match k, hk with
 | 0, _ => rfl
 | 1, _ => rfl
 | 2, _ => rfl
 | 3, _ => rfl
 | 4, _ => rfl
theorem nu_255 (x : Lm) : nu x < 57896044618658097711785492504343953926634992332820282019728792003956564819968 := Nat.lt_trans (nu_lt x) (by decide)
theorem By_set (N n : Nat) {k : Nat} (hk : k < n) : (Tab .u8 (byt N) n k).set k (.int .u8 ((byt N k : Nat) : Int)) = Tab .u8 (byt N) n (k + 1) := Tab_set _ _ _ hk
theorem shr_byte (D t : Nat) : ((D : Nat) : Int) / 2 ^ t % 256 = ((D / 2 ^ t % 256 : Nat) : Int) := by
 have e : ((D : Nat) : Int) / 2 ^ t = ((D / 2 ^ t : Nat) : Int) := by simp
 rw [e]
 omega
theorem shl_byte (E s : Nat) : IntKind.u64.wrap (((E : Nat) : Int) * 2 ^ s) % 256 = ((E * 2 ^ s % 256 : Nat) : Int) := by
 have e : ((E : Nat) : Int) * 2 ^ s = ((E * 2 ^ s : Nat) : Int) := by simp
 rw [e, IntKind.wrap_u64]
 omega
set_option maxHeartbeats 3200000 in
theorem bytes_any {x : Lm} (hx : x.ok) (w : World) :
  Calls Tryz.prog 62 #[.agg (EL x).toArray] w fun e w' => e = .returned (.agg (By (nu x) 32).toArray) ∧ Below w.heap.size w w' := by
 have hn := nu_255 x
 have HLS := yH (least_any hx)
 have HS4 := yH el_info
 have HS5 := yH l5_info
 have HSB := yH by_info
 generalize nu x = n at *
 have HN := yH hn
 clear hn
 have hbox : ∀ X, Row ((w.alloc (.cells (EL x).toArray 62)).alloc X) w.heap.size 62 (EL x) := fun X => (Row.new w (EL x) _).alloc X
 have HBOX := yH hbox
 clear hbox
 go_enter Tryz.func62, Tryz.ntmps62
 go_wp2_with (refine wpList_load_row rfl 60 (.tmp 8) rfl w.heap.size rfl 62 _ (0, 0) _ (HBOX.out _) Tryz.underlying60 rfl (HS5.out _) ?_)
 refine (HLS.out _).mono ?_
 rintro e w1 ⟨rfl, hb1⟩
 have hr1 := (Row.new1 w (.cells (EL x).toArray 62) (List.replicate 32 (.int .u8 0)) 22).belowAll hb1
 have hw1 := (Below.alloc2 w (.cells (EL x).toArray 62) (.cells (List.replicate 32 (.int .u8 0)).toArray 22)).trans (hb1.mono (Below.alloc2 w (.cells (EL x).toArray 62) (.cells (List.replicate 32 (.int .u8 0)).toArray 22)).size)
 have hs1 : w.heap.size + 1 < w1.heap.size := hr1.lt
 have hz1 := Row.new w1 (EL zeL) 60
 have hl2 := hz1.setRow (EL (ofN n))
 have hr2 := (hr1.alloc (.cells (EL zeL).toArray 60)).setRowOther (k := w1.heap.size) (by omega) (EL (ofN n)).toArray
 have hw2 := below_setRow (g := w1.heap.size) (hw1.alloc (by omega) (.cells (EL zeL).toArray 60)) (by omega) (EL (ofN n)).toArray
 have hs2 : ((w1.alloc (.cells (EL zeL).toArray 60)).setRow w1.heap.size (EL (ofN n)).toArray).heap.size = w1.heap.size + 1 := by simp
 have HZ1 := yH hz1
 have HS1 := yH hs1
 clear hb1 hr1 hw1 hs1 hz1
 go_wp2_with (refine wpList_store_row rfl 60 (.tmp 3) (.tmp 10) rfl w1.heap.size _ rfl rfl 60 _ HZ1.out (HS5.out _) (EL_sz _ _) (EL_one _) ?_)
 rw [show (#[Value.int .u64 0, .int .u64 0, .int .u64 0, .int .u64 0, .int .u64 0] : Array Value) = (EL zeL).toArray from rfl] 
 generalize (w1.alloc (.cells (EL zeL).toArray 60)).setRow w1.heap.size (EL (ofN n)).toArray = w2 at *
 have hb3 := Row.new w2 (List.replicate 32 (.int .u8 0)) 22
 rw [hs2] at hb3
 have HL2 := yH hl2
 have HR2 := yH hr2
 have HW2 := yH hw2
 have HB3 := yH hb3
 have HSS2 := yH hs2
 clear hl2 hr2 hw2 hb3 hs2
 go_loopw [11] (fun i wr => ∃ k : Nat, k ≤ 32 ∧ i = .int .i64 k ∧ Row wr w1.heap.size 60 (EL (ofN n)) ∧ Row wr (w1.heap.size + 1) 22 (Tab .u8 (byt n) 32 k) ∧ Row wr (w.heap.size + 1) 22 (Tab .u8 (byt n) 32 0) ∧ Below w.heap.size w wr) (fun i _ => 32 - (intOf i).toNat)
 case atStart =>
  have hs := HSS2.out
  have h1 := HS1.out
  refine ⟨0, Nat.zero_le _, rfl, HL2.out.alloc _, ?_, ?_, HW2.out.alloc (by omega) _⟩
  ·rw [Tab_zero]
   exact HB3.out
  ·rw [Tab_zero]
   exact HR2.out.alloc _
 case round =>
  obtain ⟨k, hkn, rfl, hl, hrow, hres, hbe⟩ := hrel
  have hs1 := HS1.out
  by_cases hlt : k < 32
  ·have hq5 : 8 * k / 51 < 5 := by omega
   have hcl := hl.cell (EL_get (ofN n) hq5)
   rw [ofN_get n hq5] at hcl
   have hold := hrow.cell (Tab_get .u8 (byt n) 32 k hlt)
   have hfree := hrow.free k
   have hset := fun v => hrow.set k v
   have hdone := By_set n 32 hlt
   have hl2 := fun v => hl.setCell (p := ⟨w1.heap.size + 1, k, none⟩) (by show _ ≠ w1.heap.size + 1; omega) v
   have hres2 := fun v => hres.setCell (p := ⟨w1.heap.size + 1, k, none⟩) (by show _ ≠ w1.heap.size + 1; omega) v
   have hb2 := fun v => hbe.setCell (p := ⟨w1.heap.size + 1, k, none⟩) (by simp; omega) v
   have hd : Int.tdiv (8 * (k : Int)) 51 = ((8 * k / 51 : Nat) : Int) := by rw [Int.tdiv_eq_ediv_of_nonneg (by omega)]; omega
   have hm : Int.tmod (8 * (k : Int)) 51 = ((8 * k % 51 : Nat) : Int) := by rw [Int.tmod_eq_emod_of_nonneg (by omega)]; omega
   have hd' : (8 * (k : Int)) / 51 = ((8 * k / 51 : Nat) : Int) := by omega
   have hm' : (8 * (k : Int)) % 51 = ((8 * k % 51 : Nat) : Int) := by omega
   have hm51 : 8 * k % 51 < 51 := Nat.mod_lt _ (by decide)
   have hshr := shr_byte (dg n (8 * k / 51)) (8 * k % 51)
   by_cases h4 : 8 * k / 51 < 4
   ·have hcl2 := hl.cell (EL_get (ofN n) (k := 8 * k / 51 + 1) (by omega))
    rw [ofN_get n (by omega)] at hcl2
    have hshl := shl_byte (dg n (8 * k / 51 + 1)) (51 - 8 * k % 51)
    have hbyt := byt_dg n k
    have hor := u8_or_nat (dg n (8 * k / 51) / 2 ^ (8 * k % 51) % 256) (dg n (8 * k / 51 + 1) * 2 ^ (51 - 8 * k % 51) % 256) (Nat.mod_lt _ (by decide)) (Nat.mod_lt _ (by decide))
    rw [hbyt] at hor
    generalize dg n (8 * k / 51) / 2 ^ (8 * k % 51) % 256 = A at *
    generalize dg n (8 * k / 51 + 1) * 2 ^ (51 - 8 * k % 51) % 256 = C at *
    generalize dg n (8 * k / 51) = D at *
    generalize hee : dg n (8 * k / 51 + 1) = E at *
    have hsub : (51 : Int) - ((8 * k % 51 : Nat) : Int) = ((51 - 8 * k % 51 : Nat) : Int) := by omega
    generalize hqq : 8 * k / 51 = q at *
    generalize hrr : 8 * k % 51 = r at *
    generalize hss : 51 - r = s at *
    clear hqq hrr
    have b0 : (0 : Int) ≤ (k : Int) := by omega
    have b1 : (k : Int) < 32 := by omega
    have b2 : (0 : Int) ≤ (q : Int) := by omega
    have b3 : (q : Int) < 5 := by omega
    have b3' : (q : Int) < 4 := by omega
    have b4 : (0 : Int) ≤ (r : Int) := by omega
    have b5 : (r : Int) < 64 := by omega
    have b6 : (0 : Int) ≤ (s : Int) := by omega
    have b7 : (s : Int) < 64 := by omega
    clear hss
    have HEE := yH hee
    clear hee
    have hw1 : IntKind.i64.wrap ((q : Nat) : Int) = (q : Int) := IntWalk.i64_in _ (by omega)
    have b8 : ((q : Int) + 1).toNat = q + 1 := by omega
    have b9 : (q : Int) + 1 < 5 := by omega
    have b10 : (0 : Int) ≤ (q : Int) + 1 := by omega
    have HSET := yH hset
    have HL2 := yH hl2
    have HRES2 := yH hres2
    have HB2 := yH hb2
    have HSHR := yH hshr
    have HSHL := yH hshl
    have HOR := yH hor
    have HDONE := yH hdone
    have HCL2 := yH hcl2
    clear hl hrow hres hbe hset hl2 hres2 hb2 hshr hshl hor hdone hbyt hcl2
    go_wp2_with fail
    rw [HSHR.out]
    have hl3 := HL2.out (.int .u8 ((A : Nat) : Int))
    have hset3 := HSET.out (.int .u8 ((A : Nat) : Int))
    have hres3 := HRES2.out (.int .u8 ((A : Nat) : Int))
    have hb3 := HB2.out (.int .u8 ((A : Nat) : Int))
    clear hold hfree hcl
    generalize wr.setCell ⟨w1.heap.size + 1, k, none⟩ (Value.int .u8 ((A : Nat) : Int)) = wx at *
    have hcx := hset3.cell (k := k) (v := .int .u8 ((A : Nat) : Int)) (by rw [List.getElem?_set, if_pos rfl, if_pos (by rw [Tab_length]; exact hlt)])
    have hfx := hset3.free k
    have hce := hl3.cell (EL_get (ofN n) (k := q + 1) (by omega))
    rw [ofN_get n (by omega)] at hce
    have hfin := hset3.set k (.int .u8 ((byt n k : Nat) : Int))
    rw [List.set_set, HDONE.out] at hfin
    have hl4 := hl3.setCell (p := ⟨w1.heap.size + 1, k, none⟩) (by show _ ≠ w1.heap.size + 1; omega) (.int .u8 ((byt n k : Nat) : Int))
    have hres4 := hres3.setCell (p := ⟨w1.heap.size + 1, k, none⟩) (by show _ ≠ w1.heap.size + 1; omega) (.int .u8 ((byt n k : Nat) : Int))
    have hb4 := hb3.setCell (p := ⟨w1.heap.size + 1, k, none⟩) (by simp; omega) (.int .u8 ((byt n k : Nat) : Int))
    rw [HEE.out] at hce
    have HFIN := yH hfin
    have HL4 := yH hl4
    have HRES4 := yH hres4
    have HB4 := yH hb4
    clear hl3 hset3 hres3 hb3 hfin hl4 hres4 hb4
    go_region
    rw [HSHL.out, HOR.out]
    generalize wx.setCell ⟨w1.heap.size + 1, k, none⟩ (Value.int .u8 ((byt n k : Nat) : Int)) = wz at *
    clear hcx hfx hce hd hm hd' hm' hsub hw1
    go_wp2_with fail
    go_roundw
    case rel => exact ⟨k + 1, by omega, by go_num, HL4.out, HFIN.out, HRES4.out, HB4.out.drew⟩
    case measure => simp [intOf]; omega
   ·have h44 : 8 * k / 51 = 4 := by omega
    have hbyt := byt_dg4 HN.out h44
    rw [h44] at hshr hcl hd hd'
    rw [hbyt] at hshr
    generalize dg n 4 = D at *
    generalize hrr : 8 * k % 51 = r at *
    clear hrr
    have b0 : (0 : Int) ≤ (k : Int) := by omega
    have b1 : (k : Int) < 32 := by omega
    have b4 : (0 : Int) ≤ (r : Int) := by omega
    have b5 : (r : Int) < 64 := by omega
    have HSET := yH hset
    have HL2 := yH hl2
    have HRES2 := yH hres2
    have HB2 := yH hb2
    have HSHR := yH hshr
    have HDONE := yH hdone
    clear hl hrow hres hbe hset hl2 hres2 hb2 hshr hdone hbyt h4 h44
    go_wp2_with fail
    rw [HSHR.out]
    have hfin := HSET.out (.int .u8 ((byt n k : Nat) : Int))
    rw [HDONE.out] at hfin
    go_roundw
    case rel => exact ⟨k + 1, by omega, by go_num, HL2.out _, hfin, HRES2.out _, HB2.out _⟩
    case measure => simp [intOf]; omega
  ·obtain rfl : k = 32 := by omega
   rw [Tab_done] at hrow
   rw [Tab_zero] at hres
   have hO : (List.replicate 32 (Value.int .u8 0)).toArray.size = (By n 32).toArray.size := by rw [List.size_toArray, List.size_toArray, By_length, List.length_replicate]
   have hrow2 : Row wr (w1.heap.size + 1) 22 (By n 32) := hrow
   have HROW := yH hrow2
   have HRES := yH hres
   have HBE := yH hbe
   have HO4 := yH hO
   clear hrow hrow2 hres hbe hO hl
   go_wp2_with (first
    | (refine wpList_load_row rfl 22 (.tmp 4) rfl (w1.heap.size + 1) rfl 22 _ (0, 0) _ HROW.out Tryz.underlying22 rfl (HSB.out _) ?_)
    | (refine wpList_store_row rfl 22 (.tmp 2) (.tmp 44) rfl (w.heap.size + 1) _ rfl rfl 22 _ HRES.out (HSB.out _) HO4.out (By_one _ _) ?_))
   have hgot := setRow_heap wr (w.heap.size + 1) _ (By n 32).toArray _ _ HRES.out
   refine bodyPost_ret (results_cell_row (by rfl) _ _ (w.heap.size + 1) _ _ _ _ (by rfl) hgot Tryz.underlying22 rfl (HSB.out _)) rfl ?_
   exact ⟨rfl, below_setRow HBE.out (by omega) _⟩
theorem byts_inj {N M : Nat} (hN : N < 256 ^ 32) (hM : M < 256 ^ 32) : ((List.range 32).map (byt N) = (List.range 32).map (byt M)) ↔ N = M := by
 constructor
 ·intro h
  have h1 := lev_byts N 32
  rw [h, lev_byts, Nat.mod_eq_of_lt hN, Nat.mod_eq_of_lt hM] at h1
  exact h1.symm
 ·rintro rfl; rfl
theorem nu_256 (x : Lm) : nu x < 256 ^ 32 := Nat.lt_trans (nu_lt x) (by decide)
theorem beq_num {N M : Nat} (hN : N < 256 ^ 32) (hM : M < 256 ^ 32) (w : World) : (binOp .eql 22 (.agg (By N 32).toArray) (.agg (By M 32).toArray)).run Tryz.prog w = .ok (.bool (decide (N = M))) w := by
 rw [beq_run]
 congr 3
 exact propext (byts_inj hN hM)
theorem by_zero (w : World) : (Instr.build 22 #[]).run Tryz.prog w = .ok (.agg (By 0 32).toArray) w := by
 rw [By_zero]
 exact run_build w 22 _ _ (by kernel_rfl)
theorem and_one (b : Nat) (h : b < 256) : bits .and .u8 (b : Int) 1 = ((b % 2 : Nat) : Int) := by
 have h1 := bits_mask .u8 8 (by decide) w8u 1 (by decide) (b : Int) (by omega) (by omega)
 have h2 : ((b % 2 : Nat) : Int) = (b : Int) % 2 ^ 1 := by omega
 rw [h2]
 exact h1
set_option maxHeartbeats 1600000 in
theorem odd_any {x : Lm} (hx : x.ok) (w : World) :
  Calls Tryz.prog 63 #[.agg (EL x).toArray] w fun e w' => e = .returned (.bool (decide (nu x % 2 = 1))) ∧ Below w.heap.size w w' := by
 have hix : ∀ w, (Instr.index 22 (.agg (By (nu x) 32).toArray) (.int .i64 0)).run Tryz.prog w = .ok (.int .u8 ((byt (nu x) 0 : Nat) : Int)) w := fun w => by_index (nu x) (k := 0) (by decide) w
 have hand := and_one (byt (nu x) 0) (byt_lt _ _)
 have e0 : byt (nu x) 0 = nu x % 256 := by unfold byt; rw [show 2 ^ (8 * 0) = 1 from rfl, Nat.div_one]
 have HBY := yH (bytes_any hx)
 have HS4 := yH el_info
 have hres : (((byt (nu x) 0 % 2 : Nat) : Int) == 1) = decide (nu x % 2 = 1) := by
  rw [Bool.eq_iff_iff, beq_iff_eq, decide_eq_true_iff]
  omega
 generalize nu x = n at *
 generalize byt n 0 = b at *
 clear e0
 have HAND := yH hand
 have HRES := yH hres
 have HIX := yH hix
 clear hand hres hix
 go_enter Tryz.func63, Tryz.ntmps63
 go_wp2_with (refine wpList_load_row rfl 62 (.tmp 1) rfl w.heap.size rfl 62 _ (0, 0) _ (Row.new w (EL x) _) Tryz.underlying62 rfl (HS4.out _) ?_)
 refine (HBY.out _).mono ?_
 rintro e w1 ⟨rfl, hb1⟩
 go_wp2_with (refine wpList_index rfl 22 (.tmp 4) (.const (.int .i64 0)) rfl (.agg (By n 32).toArray) (.int .i64 0) (.int .u8 ((b : Nat) : Int)) rfl rfl (HIX.out _) ?_)
 go_ret
 refine ⟨?_, ((Below.refl _ _).alloc (Nat.le_refl _) _).trans (hb1.mono (by simp))⟩
 rw [← HRES.out, ← HAND.out]
 rfl
set_option maxHeartbeats 1600000 in
theorem zero_any {x : Lm} (hx : x.ok) (w : World) :
  Calls Tryz.prog 77 #[.agg (EL x).toArray] w fun e w' => e = .returned (.bool (decide (nu x = 0))) ∧ Below w.heap.size w w' := by
 have HBY := yH (bytes_any hx)
 have HS4 := yH el_info
 have HEQ := yH (fun w => beq_num (nu_256 x) (show 0 < 256 ^ 32 by decide) w)
 have HZ := yH by_zero
 generalize nu x = n at *
 go_enter Tryz.func77, Tryz.ntmps77
 go_wp2_with (refine wpList_load_row rfl 62 (.tmp 1) rfl w.heap.size rfl 62 _ (0, 0) _ (Row.new w (EL x) _) Tryz.underlying62 rfl (HS4.out _) ?_)
 refine (HBY.out _).mono ?_
 rintro e w1 ⟨rfl, hb1⟩
 go_wp2_with (first
  | (refine wpList_build0 rfl 22 rfl (.agg (By 0 32).toArray) (HZ.out _) ?_)
  | (refine wpList_binop _ .eql 22 22 (.tmp 4) (.tmp 5) rfl (by rfl) _ _ (.bool (decide (n = 0))) rfl rfl (bgrd _ _ _ _ _ _) (HEQ.out _) ?_))
 go_ret
 exact ⟨rfl, ((Below.refl _ _).alloc (Nat.le_refl _) _).trans (hb1.mono (by simp))⟩
set_option profiler true in
set_option maxHeartbeats 400000 in
theorem same_any {x y : Lm} (hx : x.ok) (hy : y.ok) (w : World) :
  Calls Tryz.prog 133 #[.agg (EL x).toArray, .agg (EL y).toArray] w fun e w' => e = .returned (.bool (decide (nu x = nu y))) ∧ Below w.heap.size w w' := by
 have HBX := yH (bytes_any hx)
 have HBY := yH (bytes_any hy)
 have HEQ := yH (fun w => beq_num (nu_256 x) (nu_256 y) w)
 have hr1 := (Row.new w (EL x) 62).alloc (.cells (EL y).toArray 62)
 have hr2 := Row.new1 w (.cells (EL x).toArray 62) (EL y) 62
 have hb2 := Below.alloc2 w (.cells (EL x).toArray 62) (.cells (EL y).toArray 62)
 go_enter Tryz.func133, Tryz.ntmps133
 go_wp2_with fail
 generalize (w.alloc (.cells (EL x).toArray 62)).alloc (.cells (EL y).toArray 62) = w2 at *
 have hSB : ∀ a b, Below w2.heap.size w2 a → Below a.heap.size a b → Below w2.heap.size w2 b := fun a b h k => h.trans (k.mono h.size)
 refine wp_flat_none (aD := ?aD) (S := fun w' => Below w2.heap.size w2 w') (vs := [(0, .agg (EL x).toArray), (1, .agg (By (nu x) 32).toArray), (2, .agg (EL y).toArray), (3, .agg (By (nu y) 32).toArray), (4, .bool (decide (nu x = nu y))), (5, .bool (decide (nu x = nu y)))]) (by kernel_rfl) ((Below.refl _ _).drew) hSB ?hD ?hk ?hend
 case hD =>
  refine .s 5 rfl (Gives.l 62 (.tmp 2) w.heap.size (fun w' h => hr1.belowAll h) Tryz.underlying62 (el_info _)) ?_
  refine .s 6 rfl (Gives.call rfl Tryz.func62 (by kernel_rfl) (by kernel_rfl) rfl (fun w' _ => HBX.out w')) ?_
  refine .s 7 rfl (Gives.l 62 (.tmp 3) (w.heap.size + 1) (fun w' h => hr2.belowAll h) Tryz.underlying62 (el_info _)) ?_
  refine .s 8 rfl (Gives.call rfl Tryz.func62 (by kernel_rfl) (by kernel_rfl) rfl (fun w' _ => HBY.out w')) ?_
  refine .s 9 rfl (Gives.binop .eql 22 22 (.tmp 6) (.tmp 8) rfl _ _ _ rfl rfl (fun w' => bgrd _ _ _ _ _ _) (fun w' => HEQ.out w')) ?_
  refine .s 4 rfl (Gives.assign (x := .tmp 9) rfl rfl) ?_
  exact .nil
 case hk => kernel_rfl
 case hend =>
  intro w' hb
  go_wp2_with fail
  go_ret
  exact ⟨rfl, hb2.trans (hb.mono hb2.size)⟩
section
section
open Go.RowKit
open Go.ChangeShapes Go.WideShapes
theorem run_loadVar_at {P : Program} (w : World) (a : Addr) (ty : TypeId) (cs : List Value) (d : TypeDesc) (hc : ∀ j v, cs[j]? = some v → w.cell? (a.add j) = some v)
  (hu : P.underlying ty = some d) (hd : d.isRow = true) (hi : (P.info? ty).map (·.size) = some cs.length) : (loadVar ty a).run P w = .ok (.agg cs.toArray) w := by
 have hl : (loadCells a cs.length).run P w = .ok cs.toArray w := run_loadCells_list (P := P) w a cs hc
 cases hq : P.info? ty with
 | none => simp [hq] at hi
 | some i =>
  have hs : i.size = cs.length := by simpa [hq] using hi
  have hagg : (isAgg ty).run P w = .ok true w := by
   unfold isAgg
   rw [Sem.run_bind, run_underlying hu w]
   cases d <;> simp_all
  simp [loadVar, Sem.run_bind, hagg, sizeOf, typeInfo, hq, hs, hl]
theorem wpList_load_at {P : Program} {ops : Array Oper} {rest : List Oper} {op : Oper} {a : Act} {w : World} {Q : Exit → Act → World → Prop} (hgd : op.guard = none) (ty : TypeId) (x : Operand) (ho : op.op = .load ty x)
  (ad : Addr) (hx : a.eval x = .pointer (some ad)) (cs : List Value) (d : TypeDesc) (hc : ∀ j v, cs[j]? = some v → w.cell? (ad.add j) = some v)
  (hu : P.underlying ty = some d) (hd : d.isRow = true) (hi : (P.info? ty).map (·.size) = some cs.length)
  (h : wpList P ops Q rest (a.put op.dst (.agg cs.toArray)) w) : wpList P ops Q (op :: rest) a w :=
 wpList_plain hgd fun _ hK => by
  unfold Oper.wp execOp
  simp only [ho, hx, Instr.loadAt, Instr.sureAddr, Sem.run_bind, Sem.run_pure, Result.andThen_ok, run_loadVar_at w ad ty cs d hc hu hd hi]
  exact hK _ _ h
def RdA (w : World) (A : Option Addr) (n : Nat) (l : List Nat) : Prop :=
 l.length = n ∧ (∀ N ∈ l, N < 256 ^ 32) ∧ (0 < n → ∃ ad, A = some ad ∧ ad.block < w.heap.size ∧ ∀ (k N : Nat), l[k]? = some N → ∀ j v, (By N 32)[j]? = some v → w.cell? ((ad.add (k * 32)).add j) = some v)
theorem RdA.below {w w' : World} {A : Option Addr} {n : Nat} {l : List Nat} (h : RdA w A n l) {B : Nat} (hB : w.heap.size ≤ B) (hb : Below B w w') : RdA w' A n l :=
 ⟨h.1, h.2.1, fun hn => by
  obtain ⟨ad, e, hl, hc⟩ := h.2.2 hn
  exact ⟨ad, e, Nat.lt_of_lt_of_le hl hb.size, fun k N hN j v hv => (hb.cell (p := (ad.add (k * 32)).add j) (by rw [add_block, add_block]; omega)).trans (hc k N hN j v hv)⟩⟩
section
variable {H : Type} {enc : TypeId × Value → H} {P : Program} {t e : TypeId} {n : Nat} {q : IntKind} {W : World} {base : Nat} {sp : Nat → Bool} {held : Bool}
end
end
section
open Go.RowKit
theorem toNat_low {m : Nat} (h : m < 256) : (UInt8.ofNat m).toNat = m := by rw [UInt8.toNat_ofNat', Nat.mod_eq_of_lt (by simpa using h)]
def IsRow (k : IntKind) (w : World) (a : Option Addr) (len cap : Nat) (zs : List Int) : Prop :=
 (a = none ∧ len = 0 ∧ cap = 0 ∧ zs = []) ∨
 ∃ x, a = some x ∧ len ≤ cap ∧ cap ≤ maxLen ∧ zs.length = cap ∧ (∀ i, i < zs.length → w.cell? (x.add i) = some (.int k (zs.getD i 0))) ∧ ∀ n ∈ zs, (Lit.int k n).wf = true
theorem u8_range {n : Int} (h : (Lit.int .u8 n).wf = true) : 0 ≤ n ∧ n ≤ 255 := by
 have := bounds_u8 h
 omega
theorem row_rd {w : World} {a : Option Addr} {len cap : Nat} {zs : List Int} (h : IsRow .u8 w a len cap zs) :
  ∃ k : List UInt8, Rd w (fun j => j < w.heap.size) a len (Bs k) ∧ len ≤ cap ∧ cap ≤ maxLen := by
 rcases h with ⟨rfl, rfl, rfl, rfl⟩ | ⟨x, rfl, h1, h2, h3, h4, h5⟩
 ·exact ⟨[], Rd.nil _ _ _, Nat.le_refl _, by unfold maxLen; omega⟩
 ·refine ⟨(zs.take len).map fun n => UInt8.ofNat n.toNat, ⟨by simp [Bs]; omega, fun hn => ?_⟩, h1, h2⟩
  have hb : x.block < w.heap.size := by
   have := h4 0 (by omega)
   have := lt_of_cell this
   rwa [add_block] at this
  refine ⟨x, rfl, hb, hb, fun j u hu => ?_⟩
  have hj : j < len := by
   have := (List.getElem?_eq_some_iff.1 hu).1
   simp [Bs] at this
   omega
  have hz : zs[j]? = some (zs.getD j 0) := by rw [List.getD, List.getElem?_eq_getElem (by omega)]; rfl
  rw [h4 j (by omega), ← hu]
  have hr := u8_range (h5 _ (List.mem_of_getElem? hz))
  rw [Bs_get, List.getElem?_map, List.getElem?_take, if_pos hj, hz]
  simp only [Option.map_some]
  rw [toNat_low (by omega)]
  congr 2
  omega
theorem bs_nat (k : List UInt8) : Bs k = (k.map UInt8.toNat).map fun x => .int .u8 ((x : Nat) : Int) := by simp [Bs]
theorem bs_lt (k : List UInt8) : ∀ x ∈ k.map UInt8.toNat, x < 256 := by
 intro x hx
 obtain ⟨c, _, rfl⟩ := List.mem_map.1 hx
 exact UInt8.toNat_lt c
end
theorem Gives.load_at {P : Program} {S : World → Prop} {o : Oper} {a : Act} (ty : TypeId) (x : Operand) (ho : o.op = .load ty x) (ad : Addr) (hx : a.eval x = .pointer (some ad)) (cs : List Value) (d : TypeDesc) (hS : ∀ w, S w → ∀ j v, cs[j]? = some v → w.cell? (ad.add j) = some v)
  (hu : P.underlying ty = some d) (hd : d.isRow = true) (hi : (P.info? ty).map (·.size) = some cs.length) : Gives P S o (.agg cs.toArray) a :=
 Gives.load ty x ho (.pointer (some ad)) _ hx fun w hw => by
  simp only [Instr.loadAt, Instr.sureAddr, Sem.run_bind, Sem.run_pure, Result.andThen_ok, run_loadVar_at w ad ty cs d (hS w hw) hu hd hi]
end
end Go.Proofs.YtnpjecdodhkplaaGreatDoor
