/- The document's numbers: down, Of. The document's Of. The document's Small, Add. The document's Sub. field.Canonical. -/
import Derived.Test.YthpbipebpaeagaaDoorRa
import Derived.Test.YthpbipebpaeagaaDoorSide
import Derived.Test.YthpbipebpaeagaaDoorOf
namespace Go.Proofs.YthpbipebpaeagaaDoor
section
section
set_option maxRecDepth 100000
set_option linter.unusedSimpArgs false
open Go.RowKit

/-- The number of eight digits of 32 bits that lie in a block. -/
def rdN (w : World) (g : Nat) : Nat := match w.heap[g]? with
  | some (.cells cs _ _) => ((List.range 8).map fun i => (match cs[i]? with | some (.int _ z) => z.toNat | _ => 0) * 4294967296 ^ i).sum
  | _ => 0
theorem dw_sum (N : Nat) : ∀ n, ((List.range n).map fun i => dw N i * 4294967296 ^ i).sum = N % 4294967296 ^ n
  | 0 => by rw [Nat.pow_zero, Nat.mod_one]; rfl
  | n + 1 => by
    rw [List.range_succ, List.map_append, List.sum_append, dw_sum N n, mod_dw]
    simp [Nat.mul_comm]
theorem rdN_row {w : World} {g : Nat} {T : TypeId} {N : Nat} (h : Row w g T (Nw N)) (hN : N < W8) : rdN w g = N := by
  have e : rdN w g = ((List.range 8).map fun i => dw N i * 4294967296 ^ i).sum := by
    unfold rdN
    have h' : w.heap[g]? = some (.cells (Nw N).toArray T (0, 0)) := h
    rw [h']
    congr 1
  rw [e, dw_sum]
  exact Nat.mod_eq_of_lt hN
theorem dif8_sub {A B : Nat} (h : B ≤ A) : dif8 A B = A - B := by unfold dif8; rw [if_neg (by omega), Nat.mul_zero, Nat.add_zero]
theorem nw_ext0 (x : Value) (b : Bool) (w : World) : (Instr.extract (.tuple #[x, .bool b]) 0).run Tryd.prog w = .ok x w := by rfl
theorem nw_ext1 (x : Value) (b : Bool) (w : World) : (Instr.extract (.tuple #[x, .bool b]) 1).run Tryd.prog w = .ok (.bool b) w := by rfl

theorem less_is {A B : Nat} (hA : A < W8) (hB : B < W8) {b : Bool} (h : decide (A < B) = b) (w : World) :
    Calls Tryd.prog 23 #[.agg (Nw A).toArray, .agg (Nw B).toArray] w fun e w' => e = .returned (.bool b) ∧ Below w.heap.size w w' := by
  rw [← h]; exact less_ref A B hA hB w

set_option maxHeartbeats 3200000 in
theorem down_ref (N : Nat) (hN : N < W8) (w : World) :
    Calls Tryd.prog 65 #[.agg (Nw N).toArray] w fun e w' => e = .returned (.agg (Nw (N % pp)).toArray) ∧ Below w.heap.size w w' := by
  have HS4 := Lib.hid nw_info
  have HN := Lib.hid hN
  clear hN
  go_enter Tryd.func65, Tryd.ntmps65
  go_wp2_with fail
  go_loopw [] (fun wr => ∃ M : Nat, M ≤ N ∧ M % pp = N % pp ∧ Row wr w.heap.size 30 (Nw M) ∧ Row wr (w.heap.size + 1) 30 (Nw 0) ∧ Below w.heap.size w wr) (fun wr => rdN wr w.heap.size)
  case atStart =>
    refine ⟨N, Nat.le_refl _, rfl, (Row.new w _ _).alloc _, ?_, Below.alloc2 _ _ _⟩
    rw [Nw_zero]
    exact Row.new1 w _ _ _
  case round =>
    obtain ⟨M, hMN, hmod, hrow, hres, hbe⟩ := hrel
    have hM : M < W8 := Nat.lt_of_le_of_lt hMN HN.out
    have hld := fun (w' : World) (h : Below wr.heap.size wr w') => hrow.belowAll h
    by_cases hlt : M < pp
    · have hd : decide (M < pp) = true := decide_eq_true hlt
      go_wp2_with fail
      refine wp_flat_none (aD := ?aD1) (S := fun w' => Below wr.heap.size wr w') (vs := [(0, .agg (Nw M).toArray), (1, .agg (Nw pp).toArray), (2, .bool true), (3, .bool false)]) (by kernel_rfl) ((Below.refl _ _).drew) (fun _ _ h k => S_trans h k) ?hD1 ?hk1 ?h1
      case hD1 =>
        refine .step (some 3) rfl rfl (by kernel_rfl) (Gives.load_row 30 (.tmp 1) rfl (w.heap.size) rfl 30 _ hld Tryd.underlying30 rfl (HS4.out _)) ?_
        simp only [Act.put, List.setIfInBounds_toArray, List.set_cons_zero, List.set_cons_succ]
        refine .step (some 4) rfl rfl (by kernel_rfl) (Gives.call (args := []) rfl Tryd.func25 (by kernel_rfl) (by kernel_rfl) rfl (fun w' _ => P_any w')) ?_
        simp only [Act.put, List.setIfInBounds_toArray, List.set_cons_zero, List.set_cons_succ]
        refine .step (some 5) rfl rfl (by kernel_rfl) (Gives.call (args := [.agg (Nw M).toArray, .agg (Nw pp).toArray]) rfl Tryd.func23 (by kernel_rfl) (by kernel_rfl) rfl (fun w' _ => less_is hM pp_W8 hd w')) ?_
        simp only [Act.put, List.setIfInBounds_toArray, List.set_cons_zero, List.set_cons_succ]
        refine .step (some 6) rfl rfl (by kernel_rfl) (Gives.unop .not 4 (.tmp 5) rfl (.bool true) (.bool false) rfl (fun w' => rfl)) ?_
        simp only [Act.put, List.setIfInBounds_toArray, List.set_cons_zero, List.set_cons_succ]
        exact .nil
      case hk1 => kernel_rfl
      case h1 =>
      intro w1 hb1
      have hr1 := hrow.belowAll hb1
      have hz1 := hres.belowAll hb1
      have hw1 := hbe.trans (hb1.mono hbe.size)
      rw [Nat.mod_eq_of_lt hlt] at hmod
      rw [hmod] at hr1
      clear hrow hres hbe hld hb1 hd
      go_wp2_with (first
        | (refine wpList_load_row rfl 30 (.tmp 1) rfl w.heap.size rfl 30 _ (0, 0) _ hr1 Tryd.underlying30 rfl (HS4.out _) ?_)
        | (refine wpList_store_row rfl 30 (.tmp 2) (.tmp 13) rfl (w.heap.size + 1) _ rfl rfl 30 _ hz1 (HS4.out _) (Nw_sz _ _) (Nw_one _) ?_))
      have hgot := setRow_heap w1 (w.heap.size + 1) _ (Nw (N % pp)).toArray _ _ hz1
      refine bodyPost_ret (results_cell_row (by rfl) _ _ (w.heap.size + 1) _ _ _ _ (by rfl) hgot Tryd.underlying30 rfl (HS4.out _)) rfl ?_
      exact ⟨rfl, below_setRow hw1 (by omega) _⟩
    · have hd : decide (M < pp) = false := decide_eq_false hlt
      have hmin := fun wx => minus_ref M pp hM pp_W8 wx
      rw [dif8_sub (by omega), hd] at hmin
      go_wp2_with fail
      refine wp_flat_none (aD := ?aD3) (S := fun w' => Below wr.heap.size wr w') (vs := [(0, .agg (Nw M).toArray), (1, .agg (Nw pp).toArray), (2, .bool false), (3, .bool true)]) (by kernel_rfl) ((Below.refl _ _).drew) (fun _ _ h k => S_trans h k) ?hD3 ?hk3 ?h3
      case hD3 =>
        refine .step (some 3) rfl rfl (by kernel_rfl) (Gives.load_row 30 (.tmp 1) rfl (w.heap.size) rfl 30 _ hld Tryd.underlying30 rfl (HS4.out _)) ?_
        simp only [Act.put, List.setIfInBounds_toArray, List.set_cons_zero, List.set_cons_succ]
        refine .step (some 4) rfl rfl (by kernel_rfl) (Gives.call (args := []) rfl Tryd.func25 (by kernel_rfl) (by kernel_rfl) rfl (fun w' _ => P_any w')) ?_
        simp only [Act.put, List.setIfInBounds_toArray, List.set_cons_zero, List.set_cons_succ]
        refine .step (some 5) rfl rfl (by kernel_rfl) (Gives.call (args := [.agg (Nw M).toArray, .agg (Nw pp).toArray]) rfl Tryd.func23 (by kernel_rfl) (by kernel_rfl) rfl (fun w' _ => less_is hM pp_W8 hd w')) ?_
        simp only [Act.put, List.setIfInBounds_toArray, List.set_cons_zero, List.set_cons_succ]
        refine .step (some 6) rfl rfl (by kernel_rfl) (Gives.unop .not 4 (.tmp 5) rfl (.bool false) (.bool true) rfl (fun w' => rfl)) ?_
        simp only [Act.put, List.setIfInBounds_toArray, List.set_cons_zero, List.set_cons_succ]
        exact .nil
      case hk3 => kernel_rfl
      case h3 =>
      intro w1 hb1
      have hr1 := hrow.belowAll hb1
      have hz1 := hres.belowAll hb1
      have hw1 := hbe.trans (hb1.mono hbe.size)
      have hrd : rdN wr w.heap.size = M := rdN_row hrow hM
      have HRD := Lib.hid hrd
      have HMOD := Lib.hid hmod
      have HMIN := Lib.hid hmin
      clear hrow hres hbe hld hb1 hd hrd hmod hmin
      go_wp2_with fail
      refine wp_flat_side (aD := ?aD2) (S := fun w' => Below w1.heap.size w1 w') (x := 4) (y := 5) (s := 6) (u := .agg (Nw (M - pp)).toArray) (v := .bool false) (T := 30) (T' := 30) (g := w.heap.size) (z := Nw M) (c := Nw (M - pp)) (p := .tmp 1) (q := .tmp 11)
        (vs := [(0, .agg (Nw M).toArray), (1, .agg (Nw pp).toArray), (2, .tuple #[.agg (Nw (M - pp)).toArray, .bool false]), (3, .tuple #[.agg (Nw (M - pp)).toArray, .bool false])]) (by kernel_rfl) ((Below.refl _ _).drew) (fun _ _ h k => S_trans h k) ?hD2 ?hk2 rfl rfl rfl rfl rfl rfl (some 11) (some 12) rfl rfl ?eX ?eY ?eXY ?eYX ?ec rfl rfl ?e1 ?e2 ?e3 ?e4 (fun w' h => hr1.belowAll h) (HS4.out _) (Nw_sz _ _) (Nw_one _) ?h2
      case hD2 =>
        refine .step (some 8) rfl rfl (by kernel_rfl) (Gives.load_row 30 (.tmp 1) rfl (w.heap.size) rfl 30 _ (fun w' h => hr1.belowAll h) Tryd.underlying30 rfl (HS4.out _)) ?_
        simp only [Act.put, List.setIfInBounds_toArray, List.set_cons_zero, List.set_cons_succ]
        refine .step (some 9) rfl rfl (by kernel_rfl) (Gives.call (args := []) rfl Tryd.func25 (by kernel_rfl) (by kernel_rfl) rfl (fun w' _ => P_any w')) ?_
        simp only [Act.put, List.setIfInBounds_toArray, List.set_cons_zero, List.set_cons_succ]
        refine .step (some 10) rfl rfl (by kernel_rfl) (Gives.call (args := [.agg (Nw M).toArray, .agg (Nw pp).toArray]) rfl Tryd.func67 (by kernel_rfl) (by kernel_rfl) rfl (fun w' _ => HMIN.out w')) ?_
        simp only [Act.put, List.setIfInBounds_toArray, List.set_cons_zero, List.set_cons_succ]
        refine .step (some 7) rfl rfl (by kernel_rfl) (Gives.move (x := .tmp 10) rfl rfl) ?_
        simp only [Act.put, List.setIfInBounds_toArray, List.set_cons_zero, List.set_cons_succ]
        exact .nil
      case hk2 => kernel_rfl
      case eX => exact exec_extract (.tmp 7) 0 rfl _ _ rfl (fun w' => nw_ext0 _ _ w')
      case eY => exact exec_extract (.tmp 7) 1 rfl _ _ rfl (fun w' => nw_ext1 _ _ w')
      case eXY => exact exec_extract (.tmp 7) 0 rfl _ _ rfl (fun w' => nw_ext0 _ _ w')
      case eYX => exact exec_extract (.tmp 7) 1 rfl _ _ rfl (fun w' => nw_ext1 _ _ w')
      case ec => rfl
      case e1 => rfl
      case e2 => rfl
      case e3 => rfl
      case e4 => rfl
      case h2 =>
      intro w2 hb2
      simp only [Act.put, List.setIfInBounds_toArray, List.set_cons_zero, List.set_cons_succ]
      have hr2 := (hr1.belowAll hb2).setRow (Nw (M - pp))
      have hz2 := (hz1.belowAll hb2).setRowOther (k := w.heap.size) (by omega) (Nw (M - pp)).toArray
      have hw2 := below_setRow (g := w.heap.size) (hw1.trans (hb2.mono hw1.size)) (Nat.le_refl _) (Nw (M - pp)).toArray
      have hpos : 0 < pp := by decide
      have hrd2 := rdN_row hr2 (show M - pp < W8 by omega)
      have HR2 := Lib.hid hr2
      have HZ2 := Lib.hid hz2
      have HW2 := Lib.hid hw2
      have HRD2 := Lib.hid hrd2
      clear hr1 hz1 hw1 hb2 hr2 hz2 hw2 hrd2
      go_wp2_with fail
      go_roundw
      case rel => exact ⟨M - pp, by omega, by rw [← Nat.mod_eq_sub_mod (by omega)]; exact HMOD.out, HR2.out, HZ2.out, HW2.out⟩
      case measure => rw [HRD2.out, HRD.out]; omega
end

section
set_option maxRecDepth 100000
set_option linter.unusedSimpArgs false
open Go.RowKit

theorem ofr_ref (N : Nat) (w : World) :
    Calls Tryd.prog 15 #[.agg (By N 32).toArray] w fun e w' => e = .returned (.agg (Nw (N % 57896044618658097711785492504343953926634992332820282019728792003956564819968 % pp)).toArray) ∧ Below w.heap.size w w' := by
  have hset31 := By_set31 N
  have hb31 := byt_lt N 31
  have hM : N % 57896044618658097711785492504343953926634992332820282019728792003956564819968 < 57896044618658097711785492504343953926634992332820282019728792003956564819968 := Nat.mod_lt _ (by decide)
  generalize N % 57896044618658097711785492504343953926634992332820282019728792003956564819968 = M at *
  have hraw := fun wx => raw_ref M (Nat.lt_of_lt_of_le hM (by decide)) wx
  have hdown := fun wx => down_ref M (Nat.lt_of_lt_of_le hM (by decide)) wx
  have HRAW := Lib.hid hraw
  have HDOWN := Lib.hid hdown
  have HS4 := Lib.hid nw_info
  have HSB := Lib.hid by_info
  have c31 : ∀ X, ((w.alloc (.cells (By N 32).toArray 22)).alloc X).cell? ⟨w.heap.size, 31, none⟩ = some (.int .u8 ((byt N 31 : Nat) : Int)) := fun X => ((Row.new w (By N 32) 22).alloc X).cell (By_get N 32 (by decide))
  have f31 : ∀ X, ((w.alloc (.cells (By N 32).toArray 22)).alloc X).frozen? ⟨w.heap.size, 31, none⟩ = false := fun X => ((Row.new w (By N 32) 22).alloc X).free 31
  have hbox : ∀ X, Row ((w.alloc (.cells ((By N 32).set 31 (.int .u8 (((byt N 31 : Nat) : Int) % 128))).toArray 22)).alloc X) w.heap.size 22 (By M 32) := fun X => by
    have e : (((byt N 31 : Nat) : Int) % 128) = ((byt N 31 % 128 : Nat) : Int) := by omega
    rw [e, hset31]
    exact (Row.new w (By M 32) 22).alloc X
  have HBOX := Lib.hid hbox
  have hz : ∀ X, Row ((w.alloc X).alloc (.cells #[.int .u32 0, .int .u32 0, .int .u32 0, .int .u32 0, .int .u32 0, .int .u32 0, .int .u32 0, .int .u32 0] 30)) (w.heap.size + 1) 30 (Nw 0) := fun X => by
    rw [Nw_zero]
    exact Row.new1 w _ _ _
  have HZ := Lib.hid hz
  clear hset31 hbox hraw hdown hM hz
  go_enter Tryd.func15, Tryd.ntmps15
  go_wp2_with (refine wpList_load_row rfl 22 (.tmp 1) rfl w.heap.size rfl 22 _ (0, 0) _ (HBOX.out _) Tryd.underlying22 rfl (HSB.out _) ?_)
  refine (HRAW.out _).mono ?_
  rintro e w1 ⟨rfl, hb1⟩
  have hz1 := (HZ.out _).belowAll hb1
  have hw1 := (Below.alloc2 w _ _).trans (hb1.mono (Below.alloc2 w _ _).size)
  have HZ1 := Lib.hid hz1
  have HW1 := Lib.hid hw1
  clear hb1 hz1 hw1
  go_wp2_with fail
  refine (HDOWN.out _).mono ?_
  rintro e w2 ⟨rfl, hb2⟩
  have hz2 := HZ1.out.belowAll hb2
  have hw2 := HW1.out.trans (hb2.mono HW1.out.size)
  have HW2 := Lib.hid hw2
  clear hb2 hw2
  go_wp2_with (refine wpList_store_row rfl 30 (.tmp 2) (.tmp 9) rfl (w.heap.size + 1) _ rfl rfl 30 _ hz2 (HS4.out _) (Nw_sz _ _) (Nw_one _) ?_)
  have hgot := setRow_heap w2 (w.heap.size + 1) _ (Nw (M % pp)).toArray _ _ hz2
  refine bodyPost_ret (results_cell_row (by rfl) _ _ (w.heap.size + 1) _ _ _ _ (by rfl) hgot Tryd.underlying30 rfl (HS4.out _)) rfl ?_
  exact ⟨rfl, below_setRow HW2.out (by omega) _⟩
end

section
set_option maxRecDepth 100000
set_option linter.unusedSimpArgs false
open Go.RowKit

theorem dw_small {n : Nat} (h : n < 4294967296) : ∀ k, dw n (k + 1) = 0 := fun k => by
  unfold dw
  rw [Nat.div_eq_of_lt (Nat.lt_of_lt_of_le h ?_)]
  rw [Nat.pow_succ]
  exact Nat.le_mul_of_pos_left _ (Nat.pow_pos (by decide))
theorem Nw_small {n : Nat} (h : n < 4294967296) : Nw n = [.int .u32 (n : Int), .int .u32 0, .int .u32 0, .int .u32 0, .int .u32 0, .int .u32 0, .int .u32 0, .int .u32 0] := by
  have e0 : dw n 0 = n := by unfold dw; rw [Nat.pow_zero, Nat.div_one]; exact Nat.mod_eq_of_lt h
  show [Value.int .u32 ((dw n 0 : Nat) : Int), .int .u32 ((dw n 1 : Nat) : Int), .int .u32 ((dw n 2 : Nat) : Int), .int .u32 ((dw n 3 : Nat) : Int), .int .u32 ((dw n 4 : Nat) : Int), .int .u32 ((dw n 5 : Nat) : Int), .int .u32 ((dw n 6 : Nat) : Int), .int .u32 ((dw n 7 : Nat) : Int)] = _
  rw [e0, dw_small h 0, dw_small h 1, dw_small h 2, dw_small h 3, dw_small h 4, dw_small h 5, dw_small h 6]
  rfl

set_option maxHeartbeats 1600000 in
theorem smallr_ref (n : Nat) (h : n < 4294967296) (w : World) :
    Calls Tryd.prog 39 #[.int .u32 (n : Int)] w fun e w' => e = .returned (.agg (Nw n).toArray) ∧ Below w.heap.size w w' := by
  rw [Nw_small h]
  go_enter Tryd.func39, Tryd.ntmps39
  go_wp2
  refine bodyPost_ret (results_cell_row (by rfl) _ _ w.heap.size _ _ _ _ (by rfl) (heap_alloc_new _ _) Tryd.underlying30 rfl (by kernel_rfl)) rfl ?_
  exact ⟨rfl, (Below.refl _ _).alloc (Nat.le_refl _) _⟩

/-- What is carried over the lowest k digits of a sum. -/
def cqr (A B k : Nat) : Nat := (A % 4294967296 ^ k + B % 4294967296 ^ k) / 4294967296 ^ k
theorem cqr_zero (A B : Nat) : cqr A B 0 = 0 := by unfold cqr; rw [Nat.pow_zero, Nat.mod_one, Nat.mod_one]
theorem cqr_le (A B k : Nat) : cqr A B k ≤ 1 := by
  have hp : 0 < 4294967296 ^ k := Nat.pow_pos (by decide)
  have a := Nat.mod_lt A hp
  have b := Nat.mod_lt B hp
  unfold cqr
  refine Nat.le_of_lt_succ ((Nat.div_lt_iff_lt_mul hp).2 ?_)
  omega
theorem cqr_step (A B k : Nat) : dw A k + dw B k + cqr A B k = dw (A + B) k + 4294967296 * cqr A B (k + 1) := by
  unfold cqr
  rw [mod_dw A, mod_dw B, Nat.pow_succ]
  have hp : 0 < 4294967296 ^ k := Nat.pow_pos (by decide)
  have hA := Nat.div_add_mod A (4294967296 ^ k)
  have hB := Nat.div_add_mod B (4294967296 ^ k)
  have e : dw (A + B) k = (A / 4294967296 ^ k + B / 4294967296 ^ k + (A % 4294967296 ^ k + B % 4294967296 ^ k) / 4294967296 ^ k) % 4294967296 := by
    unfold dw
    have e1 : A + B = (A % 4294967296 ^ k + B % 4294967296 ^ k) + 4294967296 ^ k * (A / 4294967296 ^ k + B / 4294967296 ^ k) := by
      rw [Nat.mul_add]; omega
    rw [e1, Nat.add_mul_div_left _ _ hp, Nat.add_comm]
  have e2 : (A % 4294967296 ^ k + 4294967296 ^ k * dw A k + (B % 4294967296 ^ k + 4294967296 ^ k * dw B k)) / (4294967296 ^ k * 4294967296) = ((A % 4294967296 ^ k + B % 4294967296 ^ k) / 4294967296 ^ k + (dw A k + dw B k)) / 4294967296 := by
    rw [← Nat.div_div_eq_div_mul]
    congr 1
    have e3 : A % 4294967296 ^ k + 4294967296 ^ k * dw A k + (B % 4294967296 ^ k + 4294967296 ^ k * dw B k) = (A % 4294967296 ^ k + B % 4294967296 ^ k) + 4294967296 ^ k * (dw A k + dw B k) := by
      rw [Nat.mul_add]; omega
    rw [e3, Nat.add_mul_div_left _ _ hp]
  rw [e, e2]
  unfold dw
  omega
theorem cqr_8 {A B : Nat} : dw (A + B) 7 < 4294967296 := dw_lt _ _

set_option maxHeartbeats 3200000 in
theorem addr_ref (A B : Nat) (h : A + B < W8) (w : World) :
    Calls Tryd.prog 28 #[.agg (Nw A).toArray, .agg (Nw B).toArray] w fun e w' => e = .returned (.agg (Nw ((A + B) % pp)).toArray) ∧ Below w.heap.size w w' := by
  have HDOWN := Lib.hid (fun wx => down_ref (A + B) h wx)
  have HS4 := Lib.hid nw_info
  clear h
  go_enter Tryd.func28, Tryd.ntmps28
  go_wp2_with fail
  go_loopw [6, 7] (fun u i wr => ∃ k : Nat, k ≤ 8 ∧ i = .int .i64 k ∧ u = .int .u64 ((cqr A B k : Nat) : Int) ∧ Row wr w.heap.size 30 (Nw A) ∧ Row wr (w.heap.size + 1) 30 (Nw B) ∧ Row wr (w.heap.size + 1 + 1 + 1) 30 (Tab .u32 (dw (A + B)) 8 k) ∧ Row wr (w.heap.size + 1 + 1) 30 (Nw 0) ∧ Below w.heap.size w wr) (fun _ i _ => 8 - (intOf i).toNat)
  case atStart =>
    refine ⟨0, Nat.zero_le _, rfl, by rw [cqr_zero]; rfl, ((Row.new w _ _).alloc _).alloc _ |>.alloc _, ((Row.new1 w _ _ _).alloc _).alloc _, ?_, ?_, Below.alloc4 _ _ _ _ _⟩
    · rw [Tab_zero]
      exact Row.new3 w _ _ _ _ _
    · rw [Nw_zero]
      exact (Row.new2 w _ _ _ _).alloc _
  case round =>
    obtain ⟨k, hkn, rfl, rfl, ha, hb, hrow, hres, hbe⟩ := hrel
    by_cases hlt : k < 8
    · have hca := ha.cell (Nw_get A hlt)
      have hcb := hb.cell (Nw_get B hlt)
      have hold := hrow.cell (Tab_get .u32 (dw (A + B)) 8 k hlt)
      have hfree := hrow.free k
      have hset := hrow.set k (.int .u32 ((dw (A + B) k : Nat) : Int))
      rw [Tab_w _ hlt] at hset
      have ha2 := ha.setCell (p := ⟨w.heap.size + 1 + 1 + 1, k, none⟩) (by show _ ≠ w.heap.size + 1 + 1 + 1; omega) (.int .u32 ((dw (A + B) k : Nat) : Int))
      have hb2 := hb.setCell (p := ⟨w.heap.size + 1 + 1 + 1, k, none⟩) (by show _ ≠ w.heap.size + 1 + 1 + 1; omega) (.int .u32 ((dw (A + B) k : Nat) : Int))
      have hres2 := hres.setCell (p := ⟨w.heap.size + 1 + 1 + 1, k, none⟩) (by show _ ≠ w.heap.size + 1 + 1 + 1; omega) (.int .u32 ((dw (A + B) k : Nat) : Int))
      have hbe2 := hbe.setCell (p := ⟨w.heap.size + 1 + 1 + 1, k, none⟩) (by simp; omega) (.int .u32 ((dw (A + B) k : Nat) : Int))
      have hs := cqr_step A B k
      have lx := dw_lt A k
      have ly := dw_lt B k
      have ls := dw_lt (A + B) k
      have lu := cqr_le A B k
      generalize dw (A + B) k = s at *
      generalize dw A k = x at *
      generalize dw B k = y at *
      generalize hoo : cqr A B (k + 1) = o at *
      have HO := Lib.hid hoo
      clear hoo
      generalize cqr A B k = u at *
      have b0 : (0 : Int) ≤ (k : Int) := by omega
      have b1 : (k : Int) < 8 := by omega
      have HSET := Lib.hid hset
      have HA2 := Lib.hid ha2
      have HB2 := Lib.hid hb2
      have HRES2 := Lib.hid hres2
      have HBE2 := Lib.hid hbe2
      have HS := Lib.hid hs
      clear ha hb hrow hres hbe hset ha2 hb2 hres2 hbe2 hs
      go_wp2_with fail
      go_region
      have hdr : (x : Int) + (y : Int) + (u : Int) = ((s + 4294967296 * o : Nat) : Int) := by
        have := HS.out
        omega
      rw [hdr]
      have hlo : ((s + 4294967296 * o : Nat) : Int) % 4294967296 = ((s : Nat) : Int) := by omega
      have hhi : ((s + 4294967296 * o : Nat) : Int) / 4294967296 = ((o : Nat) : Int) := by omega
      have hb0 : (0 : Int) ≤ ((s + 4294967296 * o : Nat) : Int) := by omega
      have hb1 : ((s + 4294967296 * o : Nat) : Int) < 18446744073709551616 := by have := HS.out; omega
      generalize ((s + 4294967296 * o : Nat) : Int) = D at *
      have HLO := Lib.hid hlo
      have HHI := Lib.hid hhi
      clear hlo hhi hdr
      go_wp2_with fail
      rw [HLO.out]
      go_wp2_with fail
      go_roundw
      case rel =>
        refine ⟨k + 1, by omega, by go_num, by rw [HHI.out, ← HO.out], HA2.out, HB2.out, HSET.out, HRES2.out, HBE2.out.drew⟩
      case measure => simp [intOf]; omega
    · obtain rfl : k = 8 := by omega
      rw [Tab_done] at hrow
      have hrow2 : Row wr (w.heap.size + 1 + 1 + 1) 30 (Nw (A + B)) := hrow
      have HROW := Lib.hid hrow2
      have HRES := Lib.hid hres
      have HBE := Lib.hid hbe
      clear hrow hrow2 hres hbe ha hb
      go_wp2_with (refine wpList_load_row rfl 30 (.tmp 5) rfl (w.heap.size + 1 + 1 + 1) rfl 30 _ (0, 0) _ HROW.out Tryd.underlying30 rfl (HS4.out _) ?_)
      refine (HDOWN.out _).mono ?_
      rintro e w2 ⟨rfl, hb2⟩
      have hz2 := HRES.out.belowAll hb2
      have hw2 := HBE.out.trans (hb2.mono HBE.out.size)
      have HW2 := Lib.hid hw2
      clear hb2 hw2
      go_wp2_with (refine wpList_store_row rfl 30 (.tmp 4) (.tmp 31) rfl (w.heap.size + 1 + 1) _ rfl rfl 30 _ hz2 (HS4.out _) (Nw_sz _ _) (Nw_one _) ?_)
      have hgot := setRow_heap w2 (w.heap.size + 1 + 1) _ (Nw ((A + B) % pp)).toArray _ _ hz2
      refine bodyPost_ret (results_cell_row (by rfl) _ _ (w.heap.size + 1 + 1) _ _ _ _ (by rfl) hgot Tryd.underlying30 rfl (HS4.out _)) rfl ?_
      exact ⟨rfl, below_setRow HW2.out (by omega) _⟩
end

section
set_option maxRecDepth 100000
set_option linter.unusedSimpArgs false
open Go.RowKit

theorem nw_zero_row (w : World) : Row (w.alloc (.cells #[.int .u32 0, .int .u32 0, .int .u32 0, .int .u32 0, .int .u32 0, .int .u32 0, .int .u32 0, .int .u32 0] 30)) w.heap.size 30 (Nw 0) := by
  rw [Nw_zero]
  exact Row.new w _ _

set_option maxHeartbeats 3200000 in
theorem subr_le (A B : Nat) (hA : A < pp) (hB : B < pp) (h : B ≤ A) (w : World) :
    Calls Tryd.prog 30 #[.agg (Nw A).toArray, .agg (Nw B).toArray] w fun e w' => e = .returned (.agg (Nw (A - B)).toArray) ∧ Below w.heap.size w w' := by
  have hm := fun wx => minus_ref A B (Nat.lt_trans hA pp_W8) (Nat.lt_trans hB pp_W8) wx
  rw [dif8_sub h, decide_eq_false (by omega)] at hm
  have HM := Lib.hid hm
  have HS4 := Lib.hid nw_info
  clear hm hA hB h
  have ha : ∀ X Y, Row (((w.alloc (.cells (Nw A).toArray 30)).alloc X).alloc Y) w.heap.size 30 (Nw A) := fun X Y => ((Row.new w _ _).alloc _).alloc _
  have hb : ∀ X Y, Row (((w.alloc X).alloc (.cells (Nw B).toArray 30)).alloc Y) (w.heap.size + 1) 30 (Nw B) := fun X Y => (Row.new1 w _ _ _).alloc _
  have hz : ∀ X Y, Row (((w.alloc X).alloc Y).alloc (.cells #[.int .u32 0, .int .u32 0, .int .u32 0, .int .u32 0, .int .u32 0, .int .u32 0, .int .u32 0, .int .u32 0] 30)) (w.heap.size + 1 + 1) 30 (Nw 0) := fun X Y => by
    rw [Nw_zero]
    exact Row.new2 w _ _ _ _
  have HA := Lib.hid ha
  have HB := Lib.hid hb
  have HZ := Lib.hid hz
  clear ha hb hz
  go_enter Tryd.func30, Tryd.ntmps30
  go_wp2_with (first
    | (refine wpList_load_row rfl 30 (.tmp 2) rfl w.heap.size rfl 30 _ (0, 0) _ (HA.out _ _) Tryd.underlying30 rfl (HS4.out _) ?_)
    | (refine wpList_load_row rfl 30 (.tmp 3) rfl (w.heap.size + 1) rfl 30 _ (0, 0) _ (HB.out _ _) Tryd.underlying30 rfl (HS4.out _) ?_))
  refine (HM.out _).mono ?_
  rintro e w1 ⟨rfl, hb1⟩
  have hz1 := (HZ.out _ _).belowAll hb1
  have hw1 := (Below.alloc3 w _ _ _).trans (hb1.mono (Below.alloc3 w _ _ _).size)
  have hlt := hz1.lt
  have hn := nw_zero_row w1
  have hd := hn.setRow (Nw (A - B))
  have hz2 := (hz1.alloc (.cells #[.int .u32 0, .int .u32 0, .int .u32 0, .int .u32 0, .int .u32 0, .int .u32 0, .int .u32 0, .int .u32 0] 30)).setRowOther (k := w1.heap.size) (by omega) (Nw (A - B)).toArray
  have hw2 := below_setRow (g := w1.heap.size) (hw1.alloc hw1.size (.cells #[.int .u32 0, .int .u32 0, .int .u32 0, .int .u32 0, .int .u32 0, .int .u32 0, .int .u32 0, .int .u32 0] 30)) hw1.size (Nw (A - B)).toArray
  have hgot := setRow_heap _ (w.heap.size + 1 + 1) _ (Nw (A - B)).toArray _ _ hz2
  have HZ2 := Lib.hid hz2
  have HW2 := Lib.hid hw2
  have HN := Lib.hid hn
  have HD := Lib.hid hd
  have HGOT := Lib.hid hgot
  clear hb1 hz1 hw1 hn hd hz2 hw2 hgot
  go_wp2_with (first
    | (refine wpList_store_row rfl 30 (.tmp 5) (.tmp 13) rfl w1.heap.size _ rfl rfl 30 _ HN.out (HS4.out _) (Nw_sz _ _) (Nw_one _) ?_)
    | (refine wpList_load_row rfl 30 (.tmp 5) rfl w1.heap.size rfl 30 _ (0, 0) _ HD.out Tryd.underlying30 rfl (HS4.out _) ?_)
    | (refine wpList_store_row rfl 30 (.tmp 4) (.tmp 17) rfl (w.heap.size + 1 + 1) _ rfl rfl 30 _ HZ2.out (HS4.out _) (Nw_sz _ _) (Nw_one _) ?_))
  refine bodyPost_ret (results_cell_row (by rfl) _ _ (w.heap.size + 1 + 1) _ _ _ _ (by rfl) HGOT.out Tryd.underlying30 rfl (HS4.out _)) rfl ?_
  exact ⟨rfl, below_setRow HW2.out (by omega) _⟩

set_option maxHeartbeats 3200000 in
theorem subr_lt (A B : Nat) (hA : A < pp) (hB : B < pp) (h : A < B) (w : World) :
    Calls Tryd.prog 30 #[.agg (Nw A).toArray, .agg (Nw B).toArray] w fun e w' => e = .returned (.agg (Nw ((A + (pp - B)) % pp)).toArray) ∧ Below w.heap.size w w' := by
  have hm := fun wx => minus_ref A B (Nat.lt_trans hA pp_W8) (Nat.lt_trans hB pp_W8) wx
  rw [decide_eq_true h] at hm
  have hn := fun wx => minus_ref pp B pp_W8 (Nat.lt_trans hB pp_W8) wx
  rw [dif8_sub (Nat.le_of_lt hB), decide_eq_false (by omega)] at hn
  have hsum : A + (pp - B) < W8 := by
    have : pp < W8 := pp_W8
    omega
  have had := fun wx => addr_ref A (pp - B) hsum wx
  have HM := Lib.hid hm
  have HN := Lib.hid hn
  have HAD := Lib.hid had
  have HS4 := Lib.hid nw_info
  clear hm hn had hsum hA hB h
  have ha : ∀ X Y, Row (((w.alloc (.cells (Nw A).toArray 30)).alloc X).alloc Y) w.heap.size 30 (Nw A) := fun X Y => ((Row.new w _ _).alloc _).alloc _
  have hb : ∀ X Y, Row (((w.alloc X).alloc (.cells (Nw B).toArray 30)).alloc Y) (w.heap.size + 1) 30 (Nw B) := fun X Y => (Row.new1 w _ _ _).alloc _
  have hz : ∀ X Y, Row (((w.alloc X).alloc Y).alloc (.cells #[.int .u32 0, .int .u32 0, .int .u32 0, .int .u32 0, .int .u32 0, .int .u32 0, .int .u32 0, .int .u32 0] 30)) (w.heap.size + 1 + 1) 30 (Nw 0) := fun X Y => by
    rw [Nw_zero]
    exact Row.new2 w _ _ _ _
  have HA := Lib.hid ha
  have HB := Lib.hid hb
  have HZ := Lib.hid hz
  clear ha hb hz
  go_enter Tryd.func30, Tryd.ntmps30
  go_wp2_with (first
    | (refine wpList_load_row rfl 30 (.tmp 2) rfl w.heap.size rfl 30 _ (0, 0) _ (HA.out _ _) Tryd.underlying30 rfl (HS4.out _) ?_)
    | (refine wpList_load_row rfl 30 (.tmp 3) rfl (w.heap.size + 1) rfl 30 _ (0, 0) _ (HB.out _ _) Tryd.underlying30 rfl (HS4.out _) ?_))
  refine (HM.out _).mono ?_
  rintro e w1 ⟨rfl, hb1⟩
  have ha1 := (HA.out _ _).belowAll hb1
  have hb1r := (HB.out _ _).belowAll hb1
  have hz1 := (HZ.out _ _).belowAll hb1
  have hw1 := (Below.alloc3 w _ _ _).trans (hb1.mono (Below.alloc3 w _ _ _).size)
  have hlt := hz1.lt
  have hn := nw_zero_row w1
  have ha2 := (ha1.alloc (.cells #[.int .u32 0, .int .u32 0, .int .u32 0, .int .u32 0, .int .u32 0, .int .u32 0, .int .u32 0, .int .u32 0] 30)).setRowOther (k := w1.heap.size) (by omega) (Nw (dif8 A B)).toArray
  have hb2 := (hb1r.alloc (.cells #[.int .u32 0, .int .u32 0, .int .u32 0, .int .u32 0, .int .u32 0, .int .u32 0, .int .u32 0, .int .u32 0] 30)).setRowOther (k := w1.heap.size) (by omega) (Nw (dif8 A B)).toArray
  have hz2 := (hz1.alloc (.cells #[.int .u32 0, .int .u32 0, .int .u32 0, .int .u32 0, .int .u32 0, .int .u32 0, .int .u32 0, .int .u32 0] 30)).setRowOther (k := w1.heap.size) (by omega) (Nw (dif8 A B)).toArray
  have hw2 := below_setRow (g := w1.heap.size) (hw1.alloc hw1.size (.cells #[.int .u32 0, .int .u32 0, .int .u32 0, .int .u32 0, .int .u32 0, .int .u32 0, .int .u32 0, .int .u32 0] 30)) hw1.size (Nw (dif8 A B)).toArray
  have HA2 := Lib.hid ha2
  have HB2 := Lib.hid hb2
  have HZ2 := Lib.hid hz2
  have HW2 := Lib.hid hw2
  have HZN := Lib.hid hn
  clear hb1 hz1 hw1 hn ha2 hb2 hz2 hw2 ha1 hb1r
  go_wp2_with (refine wpList_store_row rfl 30 (.tmp 5) (.tmp 13) rfl w1.heap.size _ rfl rfl 30 _ HZN.out (HS4.out _) (Nw_sz _ _) (Nw_one _) ?_)
  have ha3 := HA2.out
  have hb3 := HB2.out
  have hz3 := HZ2.out
  have hw3 := HW2.out
  clear HA2 HB2 HZ2 HW2 HZN
  generalize (w1.alloc (.cells #[.int .u32 0, .int .u32 0, .int .u32 0, .int .u32 0, .int .u32 0, .int .u32 0, .int .u32 0, .int .u32 0] 30)).setRow w1.heap.size (Nw (dif8 A B)).toArray = W2 at *
  refine wp_vars_one (aD := ?aD2) (B := W2.heap.size) (S := fun w' => Below W2.heap.size W2 w') (k1 := 6) (s1 := 7) (T1 := 30) (L1 := 30) (z1 := Nw 0) (c1 := Nw (pp - B)) (x1 := .tmp 7) (y1 := .tmp 22)
    (vs := [(0, .agg (Nw pp).toArray), (1, .agg (Nw B).toArray), (2, .tuple #[.agg (Nw (pp - B)).toArray, .bool false]), (3, .tuple #[.agg (Nw (pp - B)).toArray, .bool false]), (4, .agg (Nw (pp - B)).toArray), (5, .bool false), (8, .bool false)]) (by kernel_rfl) ((Below.refl _ _).drew) (fun _ _ h k => S_trans h k) (fun _ _ _ h hg => S_row h hg _) (fun _ h => h.size) ?hD2 ?hA2 ?hk2 rfl rfl (some 7) rfl rfl rfl ?e1 ?e2 (HS4.out _) (Nw_sz _ _) (Nw_one _) ?h2
  case hD2 =>
    refine .step (some 19) rfl rfl (by kernel_rfl) (Gives.call (args := []) rfl Tryd.func25 (by kernel_rfl) (by kernel_rfl) rfl (fun w' _ => P_any w')) ?_
    simp only [Act.put, List.setIfInBounds_toArray, List.set_cons_zero, List.set_cons_succ]
    refine .step (some 20) rfl rfl (by kernel_rfl) (Gives.load_row 30 (.tmp 3) rfl (w.heap.size + 1) rfl 30 _ (fun w' h => hb3.belowAll h) Tryd.underlying30 rfl (HS4.out _)) ?_
    simp only [Act.put, List.setIfInBounds_toArray, List.set_cons_zero, List.set_cons_succ]
    refine .step (some 21) rfl rfl (by kernel_rfl) (Gives.call (args := [.agg (Nw pp).toArray, .agg (Nw B).toArray]) rfl Tryd.func67 (by kernel_rfl) (by kernel_rfl) rfl (fun w' _ => HN.out w')) ?_
    simp only [Act.put, List.setIfInBounds_toArray, List.set_cons_zero, List.set_cons_succ]
    refine .step (some 18) rfl rfl (by kernel_rfl) (Gives.move (x := .tmp 21) rfl rfl) ?_
    simp only [Act.put, List.setIfInBounds_toArray, List.set_cons_zero, List.set_cons_succ]
    refine .step (some 22) rfl rfl (by kernel_rfl) (Gives.extract (.tmp 18) 0 rfl _ _ rfl (fun w' => nw_ext0 _ _ w')) ?_
    simp only [Act.put, List.setIfInBounds_toArray, List.set_cons_zero, List.set_cons_succ]
    refine .step (some 23) rfl rfl (by kernel_rfl) (Gives.extract (.tmp 18) 1 rfl _ _ rfl (fun w' => nw_ext1 _ _ w')) ?_
    simp only [Act.put, List.setIfInBounds_toArray, List.set_cons_zero, List.set_cons_succ]
    refine .step (some 8) rfl rfl (by kernel_rfl) (Gives.assign (x := .tmp 23) rfl rfl) ?_
    simp only [Act.put, List.setIfInBounds_toArray, List.set_cons_zero, List.set_cons_succ]
    exact .nil
  case hA2 =>
    rw [Nw_zero]
    exact AllocOp.of rfl rfl rfl (fun w' => rfl)
  case hk2 => kernel_rfl
  case e1 => exact fun p => rfl
  case e2 => exact fun p => rfl
  case h2 =>
  intro p w4 hb4 hp hrowp
  simp only [Act.put, List.setIfInBounds_toArray, List.set_cons_zero, List.set_cons_succ]
  have ha4 := ha3.belowAll hb4
  have hz4 := hz3.belowAll hb4
  have hw4 := hw3.trans (hb4.mono hw3.size)
  have HA4 := Lib.hid ha4
  have HP4 := Lib.hid hrowp
  clear ha3 hb3 hz3 hw3 hb4 ha4 hrowp
  have HZ4 := Lib.hid hz4
  have HW4 := Lib.hid hw4
  clear hz4 hw4
  go_wp2_with (first
    | (refine wpList_load_row rfl 30 (.tmp 2) rfl w.heap.size rfl 30 _ (0, 0) _ HA4.out Tryd.underlying30 rfl (HS4.out _) ?_)
    | (refine wpList_load_row rfl 30 (.tmp 7) rfl p rfl 30 _ (0, 0) _ HP4.out Tryd.underlying30 rfl (HS4.out _) ?_))
  refine (HAD.out _).mono ?_
  rintro e w5 ⟨rfl, hb5⟩
  have hz5 := HZ4.out.belowAll hb5
  have hw5 := HW4.out.trans (hb5.mono HW4.out.size)
  have HW5 := Lib.hid hw5
  clear hb5 hw5
  go_wp2_with (refine wpList_store_row rfl 30 (.tmp 4) (.tmp 26) rfl (w.heap.size + 1 + 1) _ rfl rfl 30 _ hz5 (HS4.out _) (Nw_sz _ _) (Nw_one _) ?_)
  have hgot := setRow_heap w5 (w.heap.size + 1 + 1) _ (Nw ((A + (pp - B)) % pp)).toArray _ _ hz5
  refine bodyPost_ret (results_cell_row (by rfl) _ _ (w.heap.size + 1 + 1) _ _ _ _ (by rfl) hgot Tryd.underlying30 rfl (HS4.out _)) rfl ?_
  exact ⟨rfl, below_setRow HW5.out (by omega) _⟩

theorem subr_ref (A B : Nat) (hA : A < pp) (hB : B < pp) (w : World) :
    Calls Tryd.prog 30 #[.agg (Nw A).toArray, .agg (Nw B).toArray] w fun e w' => e = .returned (.agg (Nw ((A + (pp - B)) % pp)).toArray) ∧ Below w.heap.size w w' := by
  by_cases h : A < B
  · exact subr_lt A B hA hB h w
  · have e : (A + (pp - B)) % pp = A - B := by
      have e1 : A + (pp - B) = (A - B) + pp := by omega
      rw [e1, Nat.add_mod_right]
      exact Nat.mod_eq_of_lt (by omega)
    rw [e]
    exact subr_le A B hA hB (by omega) w
end
end

section
set_option maxRecDepth 100000
set_option linter.unusedSimpArgs false
open Go.RowKit

set_option maxHeartbeats 800000 in
theorem canonical_any (N : Nat) (hN : N < 256 ^ 32) (hok : (ofB N).ok) (w : World) :
    Calls Tryd.prog 22 #[.agg (By N 32).toArray] w fun e w' => e = .returned (.bool (decide (nu (ofB N) = N))) ∧ Below w.heap.size w w' := by
  have HOF := Lib.hid (fun wx => of_any N wx)
  have HBY := Lib.hid (bytes_any hok)
  have HEQ := Lib.hid (fun w => beq_num (nu_256 (ofB N)) hN w)
  have hr1 := Row.new w (By N 32) 22
  have hb2 := (Below.refl w.heap.size w).alloc (Nat.le_refl _) (.cells (By N 32).toArray 22)
  clear hN hok
  generalize ofB N = m at *
  go_enter Tryd.func22, Tryd.ntmps22
  go_wp2_with fail
  generalize w.alloc (.cells (By N 32).toArray 22) = w2 at *
  have hSB : ∀ a b, Below w2.heap.size w2 a → Below a.heap.size a b → Below w2.heap.size w2 b := fun a b h k => h.trans (k.mono h.size)
  refine wp_flat_none (aD := ?aD) (S := fun w' => Below w2.heap.size w2 w') (vs := [(0, .agg (By N 32).toArray), (1, .agg (EL m).toArray), (2, .agg (By (nu m) 32).toArray), (3, .agg (By N 32).toArray), (4, .bool (decide (nu m = N))), (5, .bool (decide (nu m = N)))]) (by kernel_rfl) ((Below.refl _ _).drew) hSB ?hD ?hk ?hend
  case hD =>
    refine .step (some 3) rfl rfl (by kernel_rfl) (Gives.load_row 22 (.tmp 1) rfl w.heap.size rfl 22 _ (fun w' h => hr1.belowAll h) Tryd.underlying22 rfl (by_info _)) ?_
    simp only [Act.put, List.setIfInBounds_toArray, List.set_cons_zero, List.set_cons_succ]
    refine .step (some 4) rfl rfl (by kernel_rfl) (Gives.call rfl Tryd.func14 (by kernel_rfl) (by kernel_rfl) rfl (fun w' _ => HOF.out w')) ?_
    simp only [Act.put, List.setIfInBounds_toArray, List.set_cons_zero, List.set_cons_succ]
    refine .step (some 5) rfl rfl (by kernel_rfl) (Gives.call rfl Tryd.func16 (by kernel_rfl) (by kernel_rfl) rfl (fun w' _ => HBY.out w')) ?_
    simp only [Act.put, List.setIfInBounds_toArray, List.set_cons_zero, List.set_cons_succ]
    refine .step (some 6) rfl rfl (by kernel_rfl) (Gives.load_row 22 (.tmp 1) rfl w.heap.size rfl 22 _ (fun w' h => hr1.belowAll h) Tryd.underlying22 rfl (by_info _)) ?_
    simp only [Act.put, List.setIfInBounds_toArray, List.set_cons_zero, List.set_cons_succ]
    refine .step (some 7) rfl rfl (by kernel_rfl) (Gives.binop .eql 22 22 (.tmp 5) (.tmp 6) rfl _ _ _ rfl rfl (fun w' => bgrd _ _ _ _ _ _) (fun w' => HEQ.out w')) ?_
    simp only [Act.put, List.setIfInBounds_toArray, List.set_cons_zero, List.set_cons_succ]
    refine .step (some 2) rfl rfl (by kernel_rfl) (Gives.assign (x := .tmp 7) rfl rfl) ?_
    simp only [Act.put, List.setIfInBounds_toArray, List.set_cons_zero, List.set_cons_succ]
    exact .nil
  case hk => kernel_rfl
  case hend =>
    intro w' hb
    go_wp2_with fail
    go_ret
    exact ⟨rfl, hb2.trans (hb.mono hb2.size)⟩
end

end Go.Proofs.YthpbipebpaeagaaDoor
