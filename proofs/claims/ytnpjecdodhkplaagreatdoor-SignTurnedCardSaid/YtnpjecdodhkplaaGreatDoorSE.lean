import Derived.Test.YtnpjecdodhkplaaGreatDoorSC
namespace Go.Proofs.YtnpjecdodhkplaaGreatDoor
set_option maxRecDepth 100000
set_option linter.unusedSimpArgs false
set_option linter.unusedVariables false
open Go.RowKit
open List renaming setIfInBounds_toArray → yA, set_cons_zero → yB, set_cons_succ → yC
open Lib renaming hid → yH
section
section
open Go.RowKit
theorem By_hi {N : Nat} (h : N < 57896044618658097711785492504343953926634992332820282019728792003956564819968) : (By N 32).set 31 (.int .u8 ((byt N 31 % 128 + 128 : Nat) : Int)) = By (N + 57896044618658097711785492504343953926634992332820282019728792003956564819968) 32 := by
 have e := By_set31 (N + 57896044618658097711785492504343953926634992332820282019728792003956564819968)
 refine By_ext _ 32 (by rw [List.length_set, By_length]) fun k hk => ?_
 rw [List.getElem?_set]
 by_cases e : 31 = k
 ·subst e
  rw [if_pos rfl, if_pos (by rw [By_length]; decide)]
  congr 2
  unfold byt
  omega
 ·rw [if_neg e, By_get N 32 hk]
  congr 2
  unfold byt
  have h8 : k < 31 := by omega
  have e2 : (57896044618658097711785492504343953926634992332820282019728792003956564819968 : Nat) = 2 ^ (8 * k) * (256 * 2 ^ (247 - 8 * k)) := by
   rw [show (256 : Nat) = 2 ^ 8 from rfl, ← Nat.pow_add, ← Nat.pow_add, show 8 * k + (8 + (247 - 8 * k)) = 255 by omega]
  rw [e2, Nat.add_mul_div_left _ _ (Nat.pow_pos (by decide)), Nat.add_mul_mod_self_left]
theorem or_hi (b : Nat) (h : b < 256) : bits .or .u8 (b : Int) 128 = ((b % 128 + 128 : Nat) : Int) := by
 have hk : ∀ c : Fin 256, bits .or .u8 ((c.val : Nat) : Int) 128 = ((c.val % 128 + 128 : Nat) : Int) := by decide +kernel
 exact hk ⟨b, h⟩
theorem odd_is {x : Lm} (hx : x.ok) {b : Bool} (h : decide (nu x % 2 = 1) = b) (w : World) :
  Calls Tryz.prog 63 #[.agg (EL x).toArray] w fun e w' => e = .returned (.bool b) ∧ Below w.heap.size w w' := by
 rw [← h]; exact odd_any hx w
def ptN (p : Pm) : Nat := nu (mulL p.y (invL p.z)) + (if nu (mulL p.x (invL p.z)) % 2 = 1 then 57896044618658097711785492504343953926634992332820282019728792003956564819968 else 0)
set_option maxHeartbeats 3200000 in
theorem by_any {p : Pm} (hp : p.ok) (w : World) (hq : Gc w) :
  Calls Tryz.prog 25 #[.agg (PL p).toArray] w fun e w' => e = .returned (.agg (By (ptN p) 32).toArray) ∧ Below w.heap.size w w' := by
 have hY := mulL_ok hp.y (invL_ok hp.z)
 have hX := mulL_ok hp.x (invL_ok hp.z)
 have hb0 := ((Row.new w (PL p) 64)).alloc (.cells #[.int .u8 0, .int .u8 0, .int .u8 0, .int .u8 0, .int .u8 0, .int .u8 0, .int .u8 0, .int .u8 0, .int .u8 0, .int .u8 0, .int .u8 0, .int .u8 0, .int .u8 0, .int .u8 0, .int .u8 0, .int .u8 0, .int .u8 0, .int .u8 0, .int .u8 0, .int .u8 0, .int .u8 0, .int .u8 0, .int .u8 0, .int .u8 0, .int .u8 0, .int .u8 0, .int .u8 0, .int .u8 0, .int .u8 0, .int .u8 0, .int .u8 0, .int .u8 0] 22)
 have hz : Row ((w.alloc (.cells (PL p).toArray 64)).alloc (.cells #[.int .u8 0, .int .u8 0, .int .u8 0, .int .u8 0, .int .u8 0, .int .u8 0, .int .u8 0, .int .u8 0, .int .u8 0, .int .u8 0, .int .u8 0, .int .u8 0, .int .u8 0, .int .u8 0, .int .u8 0, .int .u8 0, .int .u8 0, .int .u8 0, .int .u8 0, .int .u8 0, .int .u8 0, .int .u8 0, .int .u8 0, .int .u8 0, .int .u8 0, .int .u8 0, .int .u8 0, .int .u8 0, .int .u8 0, .int .u8 0, .int .u8 0, .int .u8 0] 22)) (w.heap.size + 1) 22 (By 0 32) := by
  rw [By_zero]
  exact Row.new1 w _ _ _
 have hw := Below.alloc2 w (.cells (PL p).toArray 64) (.cells #[.int .u8 0, .int .u8 0, .int .u8 0, .int .u8 0, .int .u8 0, .int .u8 0, .int .u8 0, .int .u8 0, .int .u8 0, .int .u8 0, .int .u8 0, .int .u8 0, .int .u8 0, .int .u8 0, .int .u8 0, .int .u8 0, .int .u8 0, .int .u8 0, .int .u8 0, .int .u8 0, .int .u8 0, .int .u8 0, .int .u8 0, .int .u8 0, .int .u8 0, .int .u8 0, .int .u8 0, .int .u8 0, .int .u8 0, .int .u8 0, .int .u8 0, .int .u8 0] 22)
 go_enter Tryz.func25, Tryz.ntmps25
 go_wp2_with (first
  | (refine wpList_load_at rfl 62 (.tmp 5) rfl ⟨w.heap.size, 10, none⟩ rfl (EL p.z) _ (hb0.part 10 (EL p.z) (pt_z _)) Tryz.underlying62 rfl (el_len _) ?_))
 refine (inv_any hp.z _).mono ?_
 rintro e W1 ⟨rfl, hb⟩
 replace hb0 := hb0.belowAll hb
 replace hz := hz.belowAll hb
 replace hw := hw.trans (hb.mono hw.size)
 clear hb
 have lt_hb0 := hb0.lt
 have lt_hz := hz.lt
 have ne_hb0_1 : w.heap.size ≠ W1.heap.size := by omega
 have ne_hz_1 : w.heap.size + 1 ≠ W1.heap.size := by omega
 have new_1 := Row.new W1 (EL zeL) 62
 replace hb0 := (hb0.alloc (.cells (EL zeL).toArray 62)).setRowOther (k := W1.heap.size) ne_hb0_1 (EL (invL p.z)).toArray
 replace hz := (hz.alloc (.cells (EL zeL).toArray 62)).setRowOther (k := W1.heap.size) ne_hz_1 (EL (invL p.z)).toArray
 have h3 := new_1.setRow (EL (invL p.z))
 have ge_1 := hw.size
 replace hw := below_setRow (g := W1.heap.size) (hw.alloc hw.size (.cells (EL zeL).toArray 62)) hw.size (EL (invL p.z)).toArray
 have NEW := yH new_1
 clear new_1 lt_hb0 lt_hz
 go_wp2_with (first
  | (refine wpList_store_row rfl 62 (.tmp 3) (.tmp 7) rfl W1.heap.size _ rfl rfl 62 _ NEW.out (el_info _) (EL_sz _ _) (EL_one _) ?_)
  | (refine wpList_load_at rfl 62 (.tmp 8) rfl ⟨w.heap.size, 5, none⟩ rfl (EL p.y) _ (hb0.part 5 (EL p.y) (pt_y _)) Tryz.underlying62 rfl (el_len _) ?_)
  | (refine wpList_load_row rfl 62 (.tmp 3) rfl (W1.heap.size) rfl 62 _ (0, 0) _ h3 Tryz.underlying62 rfl (el_info _) ?_))
 clear NEW
 rw [show (#[Value.int .u64 0, .int .u64 0, .int .u64 0, .int .u64 0, .int .u64 0] : Array Value) = (EL zeL).toArray from rfl]
 generalize (W1.alloc (.cells (EL zeL).toArray 62)).setRow W1.heap.size (EL (invL p.z)).toArray = V1 at *
 generalize W1.heap.size = g3 at *
 refine (mul_any hp.y (invL_ok hp.z) _).mono ?_
 rintro e W2 ⟨rfl, hb⟩
 replace hb0 := hb0.belowAll hb
 replace hz := hz.belowAll hb
 replace h3 := h3.belowAll hb
 replace hw := hw.trans (hb.mono hw.size)
 clear hb
 go_wp2_with fail
 refine (bytes_any hY _).mono ?_
 rintro e W3 ⟨rfl, hb⟩
 replace hb0 := hb0.belowAll hb
 replace hz := hz.belowAll hb
 replace h3 := h3.belowAll hb
 replace hw := hw.trans (hb.mono hw.size)
 clear hb
 have lt_hb0 := hb0.lt
 have lt_hz := hz.lt
 have lt_h3 := h3.lt
 have ne_hb0_3 : w.heap.size ≠ W3.heap.size := by omega
 have ne_hz_3 : w.heap.size + 1 ≠ W3.heap.size := by omega
 have ne_h3_3 : g3 ≠ W3.heap.size := by omega
 have new_3 := Row.new W3 (By 0 32) 22
 replace hb0 := (hb0.alloc (.cells (By 0 32).toArray 22)).setRowOther (k := W3.heap.size) ne_hb0_3 (By (nu (mulL p.y (invL p.z))) 32).toArray
 replace hz := (hz.alloc (.cells (By 0 32).toArray 22)).setRowOther (k := W3.heap.size) ne_hz_3 (By (nu (mulL p.y (invL p.z))) 32).toArray
 replace h3 := (h3.alloc (.cells (By 0 32).toArray 22)).setRowOther (k := W3.heap.size) ne_h3_3 (By (nu (mulL p.y (invL p.z))) 32).toArray
 have h4 := new_3.setRow (By (nu (mulL p.y (invL p.z))) 32)
 have ge_3 := hw.size
 replace hw := below_setRow (g := W3.heap.size) (hw.alloc hw.size (.cells (By 0 32).toArray 22)) hw.size (By (nu (mulL p.y (invL p.z))) 32).toArray
 have NEW := yH new_3
 clear new_3 lt_hb0 lt_hz lt_h3
 go_wp2_with (first
  | (refine wpList_store_row rfl 22 (.tmp 4) (.tmp 12) rfl W3.heap.size _ rfl rfl 22 _ NEW.out (by_info _) (By_sz _ _) (By_one32 _) ?_)
  | (refine wpList_load_at rfl 62 (.tmp 13) rfl ⟨w.heap.size, 0, none⟩ rfl (EL p.x) _ (hb0.part 0 (EL p.x) (pt_x _)) Tryz.underlying62 rfl (el_len _) ?_)
  | (refine wpList_load_row rfl 62 (.tmp 3) rfl (g3) rfl 62 _ (0, 0) _ h3 Tryz.underlying62 rfl (el_info _) ?_))
 clear NEW
 rw [z32]
 generalize (W3.alloc (.cells (By 0 32).toArray 22)).setRow W3.heap.size (By (nu (mulL p.y (invL p.z))) 32).toArray = V3 at *
 generalize W3.heap.size = g4 at *
 refine (mul_any hp.x (invL_ok hp.z) _).mono ?_
 rintro e W4 ⟨rfl, hb⟩
 replace hb0 := hb0.belowAll hb
 replace hz := hz.belowAll hb
 replace h3 := h3.belowAll hb
 replace h4 := h4.belowAll hb
 replace hw := hw.trans (hb.mono hw.size)
 clear hb
 clear hb0 h3
 have hlt : nu (mulL p.y (invL p.z)) < 57896044618658097711785492504343953926634992332820282019728792003956564819968 := Nat.lt_trans (nu_lt _) (by decide)
 by_cases hodd : nu (mulL p.x (invL p.z)) % 2 = 1
 ·skip
  have hod : decide (nu (mulL p.x (invL p.z)) % 2 = 1) = true := decide_eq_true hodd
  have hpt : ptN p = nu (mulL p.y (invL p.z)) + 57896044618658097711785492504343953926634992332820282019728792003956564819968 := by unfold ptN; rw [if_pos hodd]
  go_wp2_with fail
  refine (odd_is hX hod _).mono ?_
  rintro e Wo5 ⟨rfl, hb⟩
  replace hz := hz.belowAll hb
  replace h4 := h4.belowAll hb
  replace hw := hw.trans (hb.mono hw.size)
  clear hb
  have hset := By_hi hlt
  have hcell := h4.cell (By_get (nu (mulL p.y (invL p.z))) 32 (k := 31) (by decide))
  have hfree := h4.free 31
  have hbv := byt_lt (nu (mulL p.y (invL p.z))) 31
  have hor := or_hi (byt (nu (mulL p.y (invL p.z))) 31) hbv
  replace h4 := h4.set 31 (.int .u8 ((byt (nu (mulL p.y (invL p.z))) 31 % 128 + 128 : Nat) : Int))
  rw [hset] at h4
  replace hz := hz.setCell (p := ⟨g4, 31, none⟩) ne_hz_3 (.int .u8 ((byt (nu (mulL p.y (invL p.z))) 31 % 128 + 128 : Nat) : Int))
  replace hw := hw.setCell (p := ⟨g4, 31, none⟩) ge_3 (.int .u8 ((byt (nu (mulL p.y (invL p.z))) 31 % 128 + 128 : Nat) : Int))
  rw [← hor] at h4 hz hw
  have hpt2 := hpt
  generalize nu (mulL p.y (invL p.z)) + 57896044618658097711785492504343953926634992332820282019728792003956564819968 = N1 at *
  clear hset hpt2 hor
  generalize byt (nu (mulL p.y (invL p.z))) 31 = bv at *
  have H64 := yH hpt
  clear hpt hod hodd
  have hgot := setRow_heap _ (w.heap.size + 1) _ (By N1 32).toArray _ _ hz
  have HGOT := yH hgot
  have HW := yH hw
  have H4 := yH h4
  have HZ := yH hz
  clear hgot hw h4 hz
  go_wp2_with (first
   | (refine wpList_load_row rfl 22 (.tmp 4) rfl g4 rfl 22 _ (0, 0) _ H4.out Tryz.underlying22 rfl (by_info _) ?_)
   | (refine wpList_store_row rfl 22 (.tmp 2) (.tmp 22) rfl (w.heap.size + 1) _ rfl rfl 22 _ HZ.out (by_info _) (By_sz _ _) (By_one _ _) ?_))
  refine bodyPost_ret (results_cell_row (by rfl) _ _ (w.heap.size + 1) _ _ _ _ (by rfl) HGOT.out Tryz.underlying22 rfl (by_info _)) rfl ?_
  exact ⟨by rw [H64.out], below_setRow HW.out (by omega) _⟩
 ·skip
  have hod : decide (nu (mulL p.x (invL p.z)) % 2 = 1) = false := decide_eq_false hodd
  have hpt : ptN p = nu (mulL p.y (invL p.z)) + 0 := by unfold ptN; rw [if_neg hodd]
  go_wp2_with fail
  refine (odd_is hX hod _).mono ?_
  rintro e We5 ⟨rfl, hb⟩
  replace hz := hz.belowAll hb
  replace h4 := h4.belowAll hb
  replace hw := hw.trans (hb.mono hw.size)
  clear hb
  rw [Nat.add_zero] at hpt
  have H64 := yH hpt
  clear hpt hod hodd
  have hgot := setRow_heap _ (w.heap.size + 1) _ (By (nu (mulL p.y (invL p.z))) 32).toArray _ _ hz
  have HGOT := yH hgot
  have HW := yH hw
  clear hgot hw
  go_wp2_with (first
   | (refine wpList_load_row rfl 22 (.tmp 4) rfl (g4) rfl 22 _ (0, 0) _ h4 Tryz.underlying22 rfl (by_info _) ?_)
   | (refine wpList_store_row rfl 22 (.tmp 2) (.tmp 22) rfl (w.heap.size + 1) _ rfl rfl 22 _ hz (by_info _) (By_sz _ _) (By_one _ _) ?_))
  refine bodyPost_ret (results_cell_row (by rfl) _ _ (w.heap.size + 1) _ _ _ _ (by rfl) HGOT.out Tryz.underlying22 rfl (by_info _)) rfl ?_
  exact ⟨by rw [H64.out], below_setRow HW.out (by omega) _⟩
end
section
open Go.RowKit
theorem tu_ext0 (x : Value) (b : Bool) (w : World) : (Instr.extract (.tuple #[x, .bool b]) 0).run Tryz.prog w = .ok x w := by rfl
theorem tu_ext1 (x : Value) (b : Bool) (w : World) : (Instr.extract (.tuple #[x, .bool b]) 1).run Tryz.prog w = .ok (.bool b) w := by rfl
def frU (y : Lm) : Lm := subL (mulL y y) (smL 1)
def frV (y : Lm) : Lm := addL (mulL dL (mulL y y)) (smL 1)
theorem frU_ok {y : Lm} (hy : y.ok) : (frU y).ok := subL_ok (mulL_ok hy hy)
theorem frV_ok {y : Lm} (hy : y.ok) : (frV y).ok := addL_ok (mulL_ok dL_ok (mulL_ok hy hy)) sm_ok1
set_option maxHeartbeats 3200000 in
theorem fi_any {y : Lm} (hy : y.ok) (w : World) (hq : Gx w) :
  Calls Tryz.prog 75 #[.agg (EL y).toArray] w fun e w' => e = .returned (.tuple #[.agg (EL (rootL (frU y) (frV y))).toArray, .bool (rootOk (frU y) (frV y))]) ∧ Below w.heap.size w w' := by
 have hb0 := ((Row.new w (EL y) 62)).alloc (.cells #[.int .u64 0, .int .u64 0, .int .u64 0, .int .u64 0, .int .u64 0] 62)
 have hz : Row ((w.alloc (.cells (EL y).toArray 62)).alloc (.cells #[.int .u64 0, .int .u64 0, .int .u64 0, .int .u64 0, .int .u64 0] 62)) (w.heap.size + 1) 62 (EL zeL) := by
  exact Row.new1 w _ _ _
 have hw := Below.alloc2 w (.cells (EL y).toArray 62) (.cells #[.int .u64 0, .int .u64 0, .int .u64 0, .int .u64 0, .int .u64 0] 62)
 go_enter Tryz.func75, Tryz.ntmps75
 go_wp2_with (first
  | (refine wpList_load_row rfl 62 (.tmp 1) rfl (w.heap.size) rfl 62 _ (0, 0) _ hb0 Tryz.underlying62 rfl (el_info _) ?_))
 refine (mul_any hy hy _).mono ?_
 rintro e W1 ⟨rfl, hb⟩
 replace hb0 := hb0.belowAll hb
 replace hz := hz.belowAll hb
 replace hw := hw.trans (hb.mono hw.size)
 clear hb
 go_wp2_with fail
 refine (sm_any 1 (by decide) _).mono ?_
 rintro e W2 ⟨rfl, hb⟩
 replace hb0 := hb0.belowAll hb
 replace hz := hz.belowAll hb
 replace hw := hw.trans (hb.mono hw.size)
 clear hb
 clear hb0
 have lz := hz.lt
 have e4 := (Row.new W2 (EL zeL) 62).alloc (.cells (EL zeL).toArray 62)
 have e5 := (Row.new1 W2 (.cells (EL zeL).toArray 62) (EL zeL) 62).setRowOther (k := W2.heap.size) (by omega) (EL (mulL y y)).toArray
 have h4 := (e4.setRow (EL (mulL y y))).setRowOther (k := W2.heap.size + 1) (by omega) (EL (smL 1)).toArray
 have h5 := e5.setRow (EL (smL 1))
 replace hz := (((hz.alloc (.cells (EL zeL).toArray 62)).alloc (.cells (EL zeL).toArray 62)).setRowOther (k := W2.heap.size) (by omega) (EL (mulL y y)).toArray).setRowOther (k := W2.heap.size + 1) (by omega) (EL (smL 1)).toArray
 have hsz := hw.size
 have ne4 : W2.heap.size ≠ w.heap.size + 1 := by omega
 have ne5 : W2.heap.size + 1 ≠ w.heap.size + 1 := by omega
 have hw0 := hw.trans ((Below.alloc2 W2 (.cells (EL zeL).toArray 62) (.cells (EL zeL).toArray 62)).mono hw.size)
 replace hw := below_setRow (g := W2.heap.size + 1) (below_setRow (g := W2.heap.size) hw0 hsz (EL (mulL y y)).toArray) (by omega) (EL (smL 1)).toArray
 have E4 := yH e4
 have E5 := yH e5
 clear e4 e5 lz hsz hw0
 go_wp2_with (first
  | (refine wpList_store_row rfl 62 (.tmp 4) (.tmp 8) rfl W2.heap.size _ rfl rfl 62 _ E4.out (el_info _) (EL_sz _ _) (EL_one _) ?_)
  | (refine wpList_store_row rfl 62 (.tmp 5) (.tmp 9) rfl (W2.heap.size + 1) _ rfl rfl 62 _ E5.out (el_info _) (EL_sz _ _) (EL_one _) ?_))
 clear E4 E5
 rw [show (#[Value.int .u64 0, .int .u64 0, .int .u64 0, .int .u64 0, .int .u64 0] : Array Value) = (EL zeL).toArray from rfl]
 generalize (((W2.alloc (.cells (EL zeL).toArray 62)).alloc (.cells (EL zeL).toArray 62)).setRow W2.heap.size (EL (mulL y y)).toArray).setRow (W2.heap.size + 1) (EL (smL 1)).toArray = V2 at *
 generalize W2.heap.size + 1 = g5 at *
 generalize W2.heap.size = g4 at *
 have NE_h4 : ¬ (g4 = w.heap.size + 1) := ne4
 have NE_h5 : ¬ (g5 = w.heap.size + 1) := ne5
 have HB : ∀ w', Only (fun k => k = w.heap.size + 1) V2 w' → Below w.heap.size w w' := fun w' h => hw.trans (h.below (B := w.heap.size) hw.size (fun k e => e ▸ (by omega)))
 refine wp_old_one (aD := ?aD3) (W := V2) (s := 12) (L := 62) (T := 62) (g := w.heap.size + 1) (z := EL zeL) (c := EL (rootL (subL (mulL y y) (smL 1)) (addL (mulL (ofB dN) (mulL y y)) (smL 1)))) (x := .tmp 2) (y := .tmp 20)
  (vs := [(0, .agg (EL (mulL y y)).toArray), (1, .agg (EL (smL 1)).toArray), (2, .agg (EL (subL (mulL y y) (smL 1))).toArray), (3, .agg (By dN 32).toArray), (4, .agg (EL (ofB dN)).toArray), (5, .agg (EL (mulL y y)).toArray), (6, .agg (EL (mulL (ofB dN) (mulL y y))).toArray), (7, .agg (EL (smL 1)).toArray), (8, .agg (EL (addL (mulL (ofB dN) (mulL y y)) (smL 1))).toArray), (9, .tuple #[.agg (EL (rootL (subL (mulL y y) (smL 1)) (addL (mulL (ofB dN) (mulL y y)) (smL 1)))).toArray, .bool (rootOk (subL (mulL y y) (smL 1)) (addL (mulL (ofB dN) (mulL y y)) (smL 1)))]), (10, .agg (EL (rootL (subL (mulL y y) (smL 1)) (addL (mulL (ofB dN) (mulL y y)) (smL 1)))).toArray), (11, .bool (rootOk (subL (mulL y y) (smL 1)) (addL (mulL (ofB dN) (mulL y y)) (smL 1)))), (13, .bool (rootOk (subL (mulL y y) (smL 1)) (addL (mulL (ofB dN) (mulL y y)) (smL 1))))]) (by kernel_rfl) ?hD3 ?hk3 rfl rfl rfl rfl ?ea3 ?eb3 hz (el_info _) (EL_sz _ _) (EL_one _) ?h3
 case hD3 =>
  refine .s 10 rfl (Gives.l 62 (.tmp 4) (g4) (fun w' h => h4.only h NE_h4) Tryz.underlying62 (el_info _)) ?_
  refine .s 11 rfl (Gives.l 62 (.tmp 5) (g5) (fun w' h => h5.only h NE_h5) Tryz.underlying62 (el_info _)) ?_
  refine .s 12 rfl (Gives.c (args := [.agg (EL (mulL y y)).toArray, .agg (EL (smL 1)).toArray]) rfl Tryz.func110 (fun w' h => sub_any (mulL_ok hy hy) sm_ok1 w' ((hq.belowAll (HB w' h)).gl).en)) ?_
  refine .s 13 rfl (Gives.load_any 22 (.global 3) rfl 3 rfl (By dN 32) (fun w' h => (hq.belowAll (HB w' h)).d) Tryz.underlying22 rfl (by_info _)) ?_
  refine .s 14 rfl (Gives.c (args := [.agg (By dN 32).toArray]) rfl Tryz.func57 (fun w' h => of_any dN w')) ?_
  refine .s 15 rfl (Gives.l 62 (.tmp 4) (g4) (fun w' h => h4.only h NE_h4) Tryz.underlying62 (el_info _)) ?_
  refine .s 16 rfl (Gives.c (args := [.agg (EL (ofB dN)).toArray, .agg (EL (mulL y y)).toArray]) rfl Tryz.func61 (fun w' h => mul_any (ofB_ok dN) (mulL_ok hy hy) w')) ?_
  refine .s 17 rfl (Gives.l 62 (.tmp 5) (g5) (fun w' h => h5.only h NE_h5) Tryz.underlying62 (el_info _)) ?_
  refine .s 18 rfl (Gives.c (args := [.agg (EL (mulL (ofB dN) (mulL y y))).toArray, .agg (EL (smL 1)).toArray]) rfl Tryz.func111 (fun w' h => add_any (mulL_ok (ofB_ok dN) (mulL_ok hy hy)) sm_ok1 w')) ?_
  refine .s 19 rfl (Gives.c (args := [.agg (EL (subL (mulL y y) (smL 1))).toArray, .agg (EL (addL (mulL (ofB dN) (mulL y y)) (smL 1))).toArray]) rfl Tryz.func109 (fun w' h => root_any (subL_ok (mulL_ok hy hy)) (addL_ok (mulL_ok (ofB_ok dN) (mulL_ok hy hy)) sm_ok1) w' (hq.belowAll (HB w' h)).gl)) ?_
  refine .s 20 rfl (Gives.extract (.tmp 19) 0 rfl _ _ rfl (fun w' => tu_ext0 _ _ w')) ?_
  refine .s 21 rfl (Gives.extract (.tmp 19) 1 rfl _ _ rfl (fun w' => tu_ext1 _ _ w')) ?_
  refine .s 3 rfl (Gives.assign (x := (.tmp 21)) rfl rfl) ?_
  exact .nil
 case hk3 => kernel_rfl
 case ea3 => rfl
 case eb3 => rfl
 case h3 =>
 intro W3 hb hgot
 have hwe := HB _ hb
 clear hb HB
 have HGOT := yH hgot
 have HW := yH hwe
 clear hgot hwe hw hz h4 h5
 go_wp2_with fail
 refine bodyPost_ret (results_row_slot (by rfl) _ _ (w.heap.size + 1) _ _ _ _ (.bool _) (by rfl) HGOT.out Tryz.underlying62 rfl (el_info _) (by rfl)) rfl ?_
 exact ⟨rfl, HW.out⟩
end
section
open Go.RowKit
theorem and_all : ∀ c : Fin 256, bits .and .u8 ((c.val : Nat) : Int) 128 = ((c.val / 128 * 128 : Nat) : Int) := by decide +kernel
theorem andn_all : ∀ c : Fin 256, bits .andNot .u8 ((c.val : Nat) : Int) 128 = ((c.val % 128 : Nat) : Int) := by decide +kernel
theorem andn_hi (c : Nat) (h : c < 256) : bits .andNot .u8 (c : Int) 128 = ((c % 128 : Nat) : Int) := andn_all ⟨c, h⟩
theorem byt_hi (N : Nat) : byt N 31 = N / 57896044618658097711785492504343953926634992332820282019728792003956564819968 * 128 % 256 + byt N 31 % 128 := by
 unfold byt
 omega
theorem and_hi_true {N : Nat} (h : N / 57896044618658097711785492504343953926634992332820282019728792003956564819968 % 2 = 1) : (bits .and .u8 ((byt N 31 : Nat) : Int) 128 != 0) = true := by
 have h1 := and_all ⟨byt N 31, byt_lt N 31⟩
 have h2 := byt_hi N
 have h3 := byt_lt N 31
 simp only at h1
 rw [h1, bne_iff_ne]
 omega
theorem and_hi_false {N : Nat} (h : ¬ N / 57896044618658097711785492504343953926634992332820282019728792003956564819968 % 2 = 1) : (bits .and .u8 ((byt N 31 : Nat) : Int) 128 != 0) = false := by
 have h1 := and_all ⟨byt N 31, byt_lt N 31⟩
 have h2 := byt_hi N
 have h3 := byt_lt N 31
 simp only at h1
 rw [h1, bne_eq_false_iff_eq]
 omega
theorem can_is {M : Nat} (hM : M < 256 ^ 32) {b : Bool} (h : decide (M < pp) = b) (w : World) :
  Calls Tryz.prog 76 #[.agg (By M 32).toArray] w fun e w' => e = .returned (.bool b) ∧ Below w.heap.size w w' := by
 rw [← h]
 exact canonical_is M hM w
def decOk (N : Nat) : Bool := rootOk (frU (ofB (N % 57896044618658097711785492504343953926634992332820282019728792003956564819968))) (frV (ofB (N % 57896044618658097711785492504343953926634992332820282019728792003956564819968))) && (decide (N % 57896044618658097711785492504343953926634992332820282019728792003956564819968 < pp) && !(decide (N / 57896044618658097711785492504343953926634992332820282019728792003956564819968 % 2 = 1) && decide (nu (rootL (frU (ofB (N % 57896044618658097711785492504343953926634992332820282019728792003956564819968))) (frV (ofB (N % 57896044618658097711785492504343953926634992332820282019728792003956564819968)))) = 0)))
def decPt (N : Nat) : Pm := if decOk N then atP (if N / 57896044618658097711785492504343953926634992332820282019728792003956564819968 % 2 = 1 then negL (rootL (frU (ofB (N % 57896044618658097711785492504343953926634992332820282019728792003956564819968))) (frV (ofB (N % 57896044618658097711785492504343953926634992332820282019728792003956564819968)))) else rootL (frU (ofB (N % 57896044618658097711785492504343953926634992332820282019728792003956564819968))) (frV (ofB (N % 57896044618658097711785492504343953926634992332820282019728792003956564819968)))) (ofB (N % 57896044618658097711785492504343953926634992332820282019728792003956564819968)) else ze1
theorem dec_bad {N : Nat} (h : decOk N = false) : Ending.returned (.tuple #[.agg (PL (decPt N)).toArray, .bool (decOk N)]) = Ending.returned (.tuple #[.agg (PL ze1).toArray, .bool false]) := by
 unfold decPt
 rw [h]
 rfl
theorem dec_good {N : Nat} (h : decOk N = true) {x : Lm} (hx : (if N / 57896044618658097711785492504343953926634992332820282019728792003956564819968 % 2 = 1 then negL (rootL (frU (ofB (N % 57896044618658097711785492504343953926634992332820282019728792003956564819968))) (frV (ofB (N % 57896044618658097711785492504343953926634992332820282019728792003956564819968)))) else rootL (frU (ofB (N % 57896044618658097711785492504343953926634992332820282019728792003956564819968))) (frV (ofB (N % 57896044618658097711785492504343953926634992332820282019728792003956564819968)))) = x) : Ending.returned (.tuple #[.agg (PL (decPt N)).toArray, .bool (decOk N)]) = Ending.returned (.tuple #[.agg (PL (atP x (ofB (N % 57896044618658097711785492504343953926634992332820282019728792003956564819968)))).toArray, .bool true]) := by
 unfold decPt
 rw [h, if_pos rfl, hx]
set_option maxHeartbeats 12800000 in
theorem de_any (N : Nat) (w : World) (hq : Gx w) :
  Calls Tryz.prog 41 #[.agg (By N 32).toArray] w fun e w' => e = .returned (.tuple #[.agg (PL (decPt N)).toArray, .bool (decOk N)]) ∧ Below w.heap.size w w' := by
 have HMM := yH (show N % 57896044618658097711785492504343953926634992332820282019728792003956564819968 < 256 ^ 32 from Nat.lt_trans (Nat.mod_lt _ (by decide)) (by decide))
 by_cases hoth : N / 57896044618658097711785492504343953926634992332820282019728792003956564819968 % 2 = 1
 by_cases hok : rootOk (frU (ofB (N % 57896044618658097711785492504343953926634992332820282019728792003956564819968))) (frV (ofB (N % 57896044618658097711785492504343953926634992332820282019728792003956564819968))) = true
 by_cases hcan : decide (N % 57896044618658097711785492504343953926634992332820282019728792003956564819968 < pp) = true
 by_cases hx0 : decide (nu (rootL (frU (ofB (N % 57896044618658097711785492504343953926634992332820282019728792003956564819968))) (frV (ofB (N % 57896044618658097711785492504343953926634992332820282019728792003956564819968)))) = 0) = true
 have HDEC := yH (dec_bad (N := N) (by unfold decOk; rw [hok, hcan, hx0, decide_eq_true hoth]; rfl))
 have m4 := trivial
 rotate_left
 replace hx0 := (Bool.not_eq_true _).mp hx0
 have HDEC := yH (dec_good (N := N) (by unfold decOk; rw [hok, hcan, hx0, decide_eq_true hoth]; rfl) (if_pos hoth))
 rotate_left
 replace hcan := (Bool.not_eq_true _).mp hcan
 have HDEC := yH (dec_bad (N := N) (by unfold decOk; rw [hok, hcan]; rfl))
 have m2 := trivial
 rotate_left
 replace hok := (Bool.not_eq_true _).mp hok
 have HDEC := yH (dec_bad (N := N) (by unfold decOk; rw [hok]; rfl))
 have m1 := trivial
 rotate_left
 by_cases hok : rootOk (frU (ofB (N % 57896044618658097711785492504343953926634992332820282019728792003956564819968))) (frV (ofB (N % 57896044618658097711785492504343953926634992332820282019728792003956564819968))) = true
 by_cases hcan : decide (N % 57896044618658097711785492504343953926634992332820282019728792003956564819968 < pp) = true
 have HDEC := yH (dec_good (N := N) (by unfold decOk; rw [hok, hcan, decide_eq_false hoth]; rfl) (if_neg hoth))
 have m3 := trivial
 rotate_left
 replace hcan := (Bool.not_eq_true _).mp hcan
 have HDEC := yH (dec_bad (N := N) (by unfold decOk; rw [hok, hcan]; rfl))
 have m2 := trivial
 rotate_left
 replace hok := (Bool.not_eq_true _).mp hok
 have HDEC := yH (dec_bad (N := N) (by unfold decOk; rw [hok]; rfl))
 have m1 := trivial
 rotate_left
 all_goals
  have hc := byt_lt N 31
  have hset := By_set31 N
  have hcell := ((Row.new w (By N 32) 22).alloc (.cells #[.int .u64 0, .int .u64 0, .int .u64 0, .int .u64 0, .int .u64 0, .int .u64 0, .int .u64 0, .int .u64 0, .int .u64 0, .int .u64 0, .int .u64 0, .int .u64 0, .int .u64 0, .int .u64 0, .int .u64 0, .int .u64 0, .int .u64 0, .int .u64 0, .int .u64 0, .int .u64 0] 64)).cell (By_get N 32 (k := 31) (by decide))
  have hfree := ((Row.new w (By N 32) 22).alloc (.cells #[.int .u64 0, .int .u64 0, .int .u64 0, .int .u64 0, .int .u64 0, .int .u64 0, .int .u64 0, .int .u64 0, .int .u64 0, .int .u64 0, .int .u64 0, .int .u64 0, .int .u64 0, .int .u64 0, .int .u64 0, .int .u64 0, .int .u64 0, .int .u64 0, .int .u64 0, .int .u64 0] 64)).free 31
  first | (have hcmp : (bits .and .u8 ((byt N 31 : Nat) : Int) 128 != 0) = false := and_hi_false hoth) | (have hcmp : (bits .and .u8 ((byt N 31 : Nat) : Int) 128 != 0) = true := and_hi_true hoth)
  have handn := andn_hi (byt N 31) hc
  have hb0 : Row ((w.alloc (.cells ((By N 32).set 31 (.int .u8 (bits .andNot .u8 ((byt N 31 : Nat) : Int) 128))).toArray 22)).alloc (.cells #[.int .u64 0, .int .u64 0, .int .u64 0, .int .u64 0, .int .u64 0, .int .u64 0, .int .u64 0, .int .u64 0, .int .u64 0, .int .u64 0, .int .u64 0, .int .u64 0, .int .u64 0, .int .u64 0, .int .u64 0, .int .u64 0, .int .u64 0, .int .u64 0, .int .u64 0, .int .u64 0] 64)) w.heap.size 22 (By (N % 57896044618658097711785492504343953926634992332820282019728792003956564819968) 32) := by
   rw [handn, hset]
   exact (Row.new w _ 22).alloc _
  have hz : Row ((w.alloc (.cells ((By N 32).set 31 (.int .u8 (bits .andNot .u8 ((byt N 31 : Nat) : Int) 128))).toArray 22)).alloc (.cells #[.int .u64 0, .int .u64 0, .int .u64 0, .int .u64 0, .int .u64 0, .int .u64 0, .int .u64 0, .int .u64 0, .int .u64 0, .int .u64 0, .int .u64 0, .int .u64 0, .int .u64 0, .int .u64 0, .int .u64 0, .int .u64 0, .int .u64 0, .int .u64 0, .int .u64 0, .int .u64 0] 64)) (w.heap.size + 1) 64 (PL zeP) := Row.new1 w _ _ _
  have hw := Below.alloc2 w (.cells ((By N 32).set 31 (.int .u8 (bits .andNot .u8 ((byt N 31 : Nat) : Int) 128))).toArray 22) (.cells #[.int .u64 0, .int .u64 0, .int .u64 0, .int .u64 0, .int .u64 0, .int .u64 0, .int .u64 0, .int .u64 0, .int .u64 0, .int .u64 0, .int .u64 0, .int .u64 0, .int .u64 0, .int .u64 0, .int .u64 0, .int .u64 0, .int .u64 0, .int .u64 0, .int .u64 0, .int .u64 0] 64)
  clear hset handn
  generalize N % 57896044618658097711785492504343953926634992332820282019728792003956564819968 = M at *
  generalize byt N 31 = c at *
  have hfi := fun wx hq => fi_any (ofB_ok M) wx hq
  have hy := ofB_ok M
  have hof := fun wx => of_any M wx
  rw [hok] at hfi
  generalize ofB M = y at *
  have HFI := yH hfi
  have HOF := yH hof
  have hx := rootL_ok (frU_ok hy) (frV_ok hy)
  clear hfi hof hok
  go_enter Tryz.func41, Tryz.ntmps41
  go_wp2_with (first
   | (refine wpList_load_row rfl 22 (.tmp 1) rfl (w.heap.size) rfl 22 _ (0, 0) _ hb0 Tryz.underlying22 rfl (by_info _) ?_))
  refine (HOF.out _).mono ?_
  rintro e Wq1 ⟨rfl, hb⟩
  replace hb0 := hb0.belowAll hb
  replace hz := hz.belowAll hb
  replace hw := hw.trans (hb.mono hw.size)
  clear hb
  have lt_hb0 := hb0.lt
  have lt_hz := hz.lt
  have ne_hb0_q1 : w.heap.size ≠ Wq1.heap.size := by omega
  have ne_hz_q1 : w.heap.size + 1 ≠ Wq1.heap.size := by omega
  have new_q1 := Row.new Wq1 (EL zeL) 62
  replace hb0 := (hb0.alloc (.cells (EL zeL).toArray 62)).setRowOther (k := Wq1.heap.size) ne_hb0_q1 (EL y).toArray
  replace hz := (hz.alloc (.cells (EL zeL).toArray 62)).setRowOther (k := Wq1.heap.size) ne_hz_q1 (EL y).toArray
  have h5 := new_q1.setRow (EL y)
  have ge_q1 := hw.size
  replace hw := below_setRow (g := Wq1.heap.size) (hw.alloc hw.size (.cells (EL zeL).toArray 62)) hw.size (EL y).toArray
  have NEW := yH new_q1
  clear new_q1 lt_hb0 lt_hz
  go_wp2_with (first
   | (refine wpList_store_row rfl 62 (.tmp 5) (.tmp 17) rfl Wq1.heap.size _ rfl rfl 62 _ NEW.out (el_info _) (EL_sz _ _) (EL_one _) ?_)
   | (refine wpList_load_row rfl 62 (.tmp 5) rfl (Wq1.heap.size) rfl 62 _ (0, 0) _ h5 Tryz.underlying62 rfl (el_info _) ?_))
  clear NEW
  rw [show (#[Value.int .u64 0, .int .u64 0, .int .u64 0, .int .u64 0, .int .u64 0] : Array Value) = (EL zeL).toArray from rfl]
  generalize (Wq1.alloc (.cells (EL zeL).toArray 62)).setRow Wq1.heap.size (EL y).toArray = Vq1 at *
  generalize Wq1.heap.size = g5 at *
  refine (HFI.out _ (hq.belowAll hw)).mono ?_
  rintro e Wq2 ⟨rfl, hb⟩
  replace hb0 := hb0.belowAll hb
  replace hz := hz.belowAll hb
  replace h5 := h5.belowAll hb
  replace hw := hw.trans (hb.mono hw.size)
  clear hb
  have lt_hb0 := hb0.lt
  have lt_hz := hz.lt
  have lt_h5 := h5.lt
  have ne_hb0_q2 : w.heap.size ≠ Wq2.heap.size := by omega
  have ne_hz_q2 : w.heap.size + 1 ≠ Wq2.heap.size := by omega
  have ne_h5_q2 : g5 ≠ Wq2.heap.size := by omega
  have new_q2 := Row.new Wq2 (EL zeL) 62
  replace hb0 := (hb0.alloc (.cells (EL zeL).toArray 62)).setRowOther (k := Wq2.heap.size) ne_hb0_q2 (EL (rootL (frU y) (frV y))).toArray
  replace hz := (hz.alloc (.cells (EL zeL).toArray 62)).setRowOther (k := Wq2.heap.size) ne_hz_q2 (EL (rootL (frU y) (frV y))).toArray
  replace h5 := (h5.alloc (.cells (EL zeL).toArray 62)).setRowOther (k := Wq2.heap.size) ne_h5_q2 (EL (rootL (frU y) (frV y))).toArray
  have h6 := new_q2.setRow (EL (rootL (frU y) (frV y)))
  have ge_q2 := hw.size
  replace hw := below_setRow (g := Wq2.heap.size) (hw.alloc hw.size (.cells (EL zeL).toArray 62)) hw.size (EL (rootL (frU y) (frV y))).toArray
  have NEW := yH new_q2
  clear new_q2 lt_hb0 lt_hz lt_h5
 all_goals try
  clear m1
  go_wp2_with (first
   | (refine wpList_store_row rfl 62 (.tmp 6) (.tmp 21) rfl Wq2.heap.size _ rfl rfl 62 _ NEW.out (el_info _) (EL_sz _ _) (EL_one _) ?_))
  clear NEW
  rw [show (#[Value.int .u64 0, .int .u64 0, .int .u64 0, .int .u64 0, .int .u64 0] : Array Value) = (EL zeL).toArray from rfl]
  generalize (Wq2.alloc (.cells (EL zeL).toArray 62)).setRow Wq2.heap.size (EL (rootL (frU y) (frV y))).toArray = Vq2 at *
  generalize Wq2.heap.size = g6 at *
  refine (ze_any _ (hq.belowAll hw)).mono ?_
  rintro e Wq3 ⟨rfl, hb⟩
  replace hb0 := hb0.belowAll hb
  replace hz := hz.belowAll hb
  replace h5 := h5.belowAll hb
  replace h6 := h6.belowAll hb
  replace hw := hw.trans (hb.mono hw.size)
  clear hb
  have hgot := setRow_heap _ (w.heap.size + 1) _ (PL ze1).toArray _ _ hz
  have HGOT := yH hgot
  have HW := yH hw
  clear hgot hw
  go_wp2_with (first
   | (refine wpList_store_row rfl 64 (.tmp 2) (.tmp 37) rfl (w.heap.size + 1) _ rfl rfl 64 _ hz (pl_info _) (PL_sz _ _) (PL_one _) ?_))
  refine bodyPost_ret (results_row_slot (by rfl) _ _ (w.heap.size + 1) _ _ _ _ (.bool false) (by rfl) HGOT.out Tryz.underlying64 rfl (pl_info _) (by rfl)) rfl ?_
  exact ⟨by rw [HDEC.out], below_setRow HW.out (by omega) _⟩
 all_goals
  go_wp2_with (first
   | (refine wpList_store_row rfl 62 (.tmp 6) (.tmp 21) rfl Wq2.heap.size _ rfl rfl 62 _ NEW.out (el_info _) (EL_sz _ _) (EL_one _) ?_)
   | (refine wpList_load_guarded (by rfl) 22 (.tmp 1) rfl (w.heap.size) rfl 22 _ hb0 Tryz.underlying22 rfl (by_info _) ?_))
  clear NEW
  rw [show (#[Value.int .u64 0, .int .u64 0, .int .u64 0, .int .u64 0, .int .u64 0] : Array Value) = (EL zeL).toArray from rfl]
  generalize (Wq2.alloc (.cells (EL zeL).toArray 62)).setRow Wq2.heap.size (EL (rootL (frU y) (frV y))).toArray = Vq2 at *
  generalize Wq2.heap.size = g6 at *
  refine (can_is HMM.out hcan _).mono ?_
 all_goals try
  clear m2
  rintro e Wq3 ⟨rfl, hb⟩
  replace hb0 := hb0.belowAll hb
  replace hz := hz.belowAll hb
  replace h5 := h5.belowAll hb
  replace h6 := h6.belowAll hb
  replace hw := hw.trans (hb.mono hw.size)
  clear hb
  go_wp2_with fail
  refine (ze_any _ (hq.belowAll hw)).mono ?_
  rintro e Wq4 ⟨rfl, hb⟩
  replace hb0 := hb0.belowAll hb
  replace hz := hz.belowAll hb
  replace h5 := h5.belowAll hb
  replace h6 := h6.belowAll hb
  replace hw := hw.trans (hb.mono hw.size)
  clear hb
  have hgot := setRow_heap _ (w.heap.size + 1) _ (PL ze1).toArray _ _ hz
  have HGOT := yH hgot
  have HW := yH hw
  clear hgot hw
  go_wp2_with (first
   | (refine wpList_store_row rfl 64 (.tmp 2) (.tmp 37) rfl (w.heap.size + 1) _ rfl rfl 64 _ hz (pl_info _) (PL_sz _ _) (PL_one _) ?_))
  refine bodyPost_ret (results_row_slot (by rfl) _ _ (w.heap.size + 1) _ _ _ _ (.bool false) (by rfl) HGOT.out Tryz.underlying64 rfl (pl_info _) (by rfl)) rfl ?_
  exact ⟨by rw [HDEC.out], below_setRow HW.out (by omega) _⟩
 all_goals try
  clear m3
  rintro e Wez3 ⟨rfl, hb⟩
  replace hb0 := hb0.belowAll hb
  replace hz := hz.belowAll hb
  replace h5 := h5.belowAll hb
  replace h6 := h6.belowAll hb
  replace hw := hw.trans (hb.mono hw.size)
  clear hb
  go_wp2_with (first
   | (refine wpList_load_row rfl 62 (.tmp 6) rfl (g6) rfl 62 _ (0, 0) _ h6 Tryz.underlying62 rfl (el_info _) ?_)
   | (refine wpList_load_row rfl 62 (.tmp 5) rfl (g5) rfl 62 _ (0, 0) _ h5 Tryz.underlying62 rfl (el_info _) ?_))
  refine (at_any hx hy _ (hq.belowAll hw)).mono ?_
  rintro e Wez4 ⟨rfl, hb⟩
  replace hb0 := hb0.belowAll hb
  replace hz := hz.belowAll hb
  replace h5 := h5.belowAll hb
  replace h6 := h6.belowAll hb
  replace hw := hw.trans (hb.mono hw.size)
  clear hb
  have hgot := setRow_heap _ (w.heap.size + 1) _ (PL (atP (rootL (frU y) (frV y)) y)).toArray _ _ hz
  have HGOT := yH hgot
  have HW := yH hw
  clear hgot hw
  go_wp2_with (first
   | (refine wpList_store_row rfl 64 (.tmp 2) (.tmp 43) rfl (w.heap.size + 1) _ rfl rfl 64 _ hz (pl_info _) (PL_sz _ _) (PL_one _) ?_))
  refine bodyPost_ret (results_row_slot (by rfl) _ _ (w.heap.size + 1) _ _ _ _ (.bool true) (by rfl) HGOT.out Tryz.underlying64 rfl (pl_info _) (by rfl)) rfl ?_
  exact ⟨by rw [HDEC.out], below_setRow HW.out (by omega) _⟩
 all_goals try
  clear m4
  rintro e Wox3 ⟨rfl, hb⟩
  replace hb0 := hb0.belowAll hb
  replace hz := hz.belowAll hb
  replace h5 := h5.belowAll hb
  replace h6 := h6.belowAll hb
  replace hw := hw.trans (hb.mono hw.size)
  clear hb
  go_wp2_with (first
   | (refine wpList_load_guarded (by rfl) 62 (.tmp 6) rfl (g6) rfl 62 _ h6 Tryz.underlying62 rfl (el_info _) ?_))
  refine (zero_is hx hx0 _).mono ?_
  rintro e Wox4 ⟨rfl, hb⟩
  replace hb0 := hb0.belowAll hb
  replace hz := hz.belowAll hb
  replace h5 := h5.belowAll hb
  replace h6 := h6.belowAll hb
  replace hw := hw.trans (hb.mono hw.size)
  clear hb
  go_wp2_with fail
  refine (ze_any _ (hq.belowAll hw)).mono ?_
  rintro e Wox5 ⟨rfl, hb⟩
  replace hb0 := hb0.belowAll hb
  replace hz := hz.belowAll hb
  replace h5 := h5.belowAll hb
  replace h6 := h6.belowAll hb
  replace hw := hw.trans (hb.mono hw.size)
  clear hb
  have hgot := setRow_heap _ (w.heap.size + 1) _ (PL ze1).toArray _ _ hz
  have HGOT := yH hgot
  have HW := yH hw
  clear hgot hw
  go_wp2_with (first
   | (refine wpList_store_row rfl 64 (.tmp 2) (.tmp 37) rfl (w.heap.size + 1) _ rfl rfl 64 _ hz (pl_info _) (PL_sz _ _) (PL_one _) ?_))
  refine bodyPost_ret (results_row_slot (by rfl) _ _ (w.heap.size + 1) _ _ _ _ (.bool false) (by rfl) HGOT.out Tryz.underlying64 rfl (pl_info _) (by rfl)) rfl ?_
  exact ⟨by rw [HDEC.out], below_setRow HW.out (by omega) _⟩
 all_goals
  rintro e Woy3 ⟨rfl, hb⟩
  replace hb0 := hb0.belowAll hb
  replace hz := hz.belowAll hb
  replace h5 := h5.belowAll hb
  replace h6 := h6.belowAll hb
  replace hw := hw.trans (hb.mono hw.size)
  clear hb
  go_wp2_with (first
   | (refine wpList_load_guarded (by rfl) 62 (.tmp 6) rfl (g6) rfl 62 _ h6 Tryz.underlying62 rfl (el_info _) ?_))
  refine (zero_is hx hx0 _).mono ?_
  rintro e Woy4 ⟨rfl, hb⟩
  replace hb0 := hb0.belowAll hb
  replace hz := hz.belowAll hb
  replace h5 := h5.belowAll hb
  replace h6 := h6.belowAll hb
  replace hw := hw.trans (hb.mono hw.size)
  clear hb
  go_wp2_with (first
   | (refine wpList_load_row rfl 62 (.tmp 6) rfl (g6) rfl 62 _ (0, 0) _ h6 Tryz.underlying62 rfl (el_info _) ?_))
  refine (neg_any hx _ (hq.belowAll hw).gl.en).mono ?_
  rintro e Woy5 ⟨rfl, hb⟩
  replace hb0 := hb0.belowAll hb
  replace hz := hz.belowAll hb
  replace h5 := h5.belowAll hb
  replace h6 := h6.belowAll hb
  replace hw := hw.trans (hb.mono hw.size)
  clear hb
  have SET := yH h6
  replace hb0 := hb0.setRowOther (k := g6) ne_hb0_q2 (EL (negL (rootL (frU y) (frV y)))).toArray
  replace hz := hz.setRowOther (k := g6) ne_hz_q2 (EL (negL (rootL (frU y) (frV y)))).toArray
  replace h5 := h5.setRowOther (k := g6) ne_h5_q2 (EL (negL (rootL (frU y) (frV y)))).toArray
  replace h6 := h6.setRow (EL (negL (rootL (frU y) (frV y))))
  replace hw := below_setRow (g := g6) hw ge_q2 (EL (negL (rootL (frU y) (frV y)))).toArray
  go_wp2_with (first
   | (refine wpList_store_row rfl 62 (.tmp 6) (.tmp 40) rfl g6 _ rfl rfl 62 _ SET.out (el_info _) (EL_sz _ _) (EL_one _) ?_)
   | (refine wpList_load_row rfl 62 (.tmp 6) rfl (g6) rfl 62 _ (0, 0) _ h6 Tryz.underlying62 rfl (el_info _) ?_)
   | (refine wpList_load_row rfl 62 (.tmp 5) rfl (g5) rfl 62 _ (0, 0) _ h5 Tryz.underlying62 rfl (el_info _) ?_))
  clear SET
  generalize Woy5.setRow g6 (EL (negL (rootL (frU y) (frV y)))).toArray = Voy5 at *
  refine (at_any (negL_ok _) hy _ (hq.belowAll hw)).mono ?_
  rintro e Woy6 ⟨rfl, hb⟩
  replace hb0 := hb0.belowAll hb
  replace hz := hz.belowAll hb
  replace h5 := h5.belowAll hb
  replace h6 := h6.belowAll hb
  replace hw := hw.trans (hb.mono hw.size)
  clear hb
  have hgot := setRow_heap _ (w.heap.size + 1) _ (PL (atP (negL (rootL (frU y) (frV y))) y)).toArray _ _ hz
  have HGOT := yH hgot
  have HW := yH hw
  clear hgot hw
  go_wp2_with (first
   | (refine wpList_store_row rfl 64 (.tmp 2) (.tmp 43) rfl (w.heap.size + 1) _ rfl rfl 64 _ hz (pl_info _) (PL_sz _ _) (PL_one _) ?_))
  refine bodyPost_ret (results_row_slot (by rfl) _ _ (w.heap.size + 1) _ _ _ _ (.bool true) (by rfl) HGOT.out Tryz.underlying64 rfl (pl_info _) (by rfl)) rfl ?_
  exact ⟨by rw [HDEC.out], below_setRow HW.out (by omega) _⟩
end
end
end Go.Proofs.YtnpjecdodhkplaaGreatDoor
