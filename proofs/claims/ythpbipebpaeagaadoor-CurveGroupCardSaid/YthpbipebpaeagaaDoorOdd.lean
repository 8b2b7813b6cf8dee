/- field's Odd, Zero, Same, Canonical. -/
import Derived.Test.YthpbipebpaeagaaDoorBytesF
import Derived.Test.YthpbipebpaeagaaDoorGives
namespace Go.Proofs.YthpbipebpaeagaaDoor
set_option maxRecDepth 100000
open Go.RowKit
set_option linter.unusedSimpArgs false

/-- Bytes tell a number. -/
theorem byts_inj {N M : Nat} (hN : N < 256 ^ 32) (hM : M < 256 ^ 32) : ((List.range 32).map (byt N) = (List.range 32).map (byt M)) ↔ N = M := by
  constructor
  · intro h
    have h1 := lev_byts N 32
    rw [h, lev_byts, Nat.mod_eq_of_lt hN, Nat.mod_eq_of_lt hM] at h1
    exact h1.symm
  · rintro rfl; rfl
theorem nu_256 (x : Lm) : nu x < 256 ^ 32 := Nat.lt_trans (nu_lt x) (by decide)
theorem beq_num {N M : Nat} (hN : N < 256 ^ 32) (hM : M < 256 ^ 32) (w : World) : (binOp .eql 22 (.agg (By N 32).toArray) (.agg (By M 32).toArray)).run Tryd.prog w = .ok (.bool (decide (N = M))) w := by
  rw [beq_run]
  congr 3
  exact propext (byts_inj hN hM)
theorem by_zero (w : World) : (Instr.build 22 #[]).run Tryd.prog w = .ok (.agg (By 0 32).toArray) w := by
  rw [By_zero]
  exact run_build w 22 _ _ (by kernel_rfl)
theorem and_one (b : Nat) (h : b < 256) : bits .and .u8 (b : Int) 1 = ((b % 2 : Nat) : Int) := by
  have h1 := bits_mask .u8 8 (by decide) w8u 1 (by decide) (b : Int) (by omega) (by omega)
  have h2 : ((b % 2 : Nat) : Int) = (b : Int) % 2 ^ 1 := by omega
  rw [h2]
  exact h1

set_option maxHeartbeats 1600000 in
theorem odd_any {x : Lm} (hx : x.ok) (w : World) :
    Calls Tryd.prog 18 #[.agg (EL x).toArray] w fun e w' => e = .returned (.bool (decide (nu x % 2 = 1))) ∧ Below w.heap.size w w' := by
  have hix : ∀ w, (Instr.index 22 (.agg (By (nu x) 32).toArray) (.int .i64 0)).run Tryd.prog w = .ok (.int .u8 ((byt (nu x) 0 : Nat) : Int)) w := fun w => by_index (nu x) (k := 0) (by decide) w
  have hand := and_one (byt (nu x) 0) (byt_lt _ _)
  have e0 : byt (nu x) 0 = nu x % 256 := by unfold byt; rw [show 2 ^ (8 * 0) = 1 from rfl, Nat.div_one]
  have HBY := Lib.hid (bytes_any hx)
  have HS4 := Lib.hid el_info
  have hres : (((byt (nu x) 0 % 2 : Nat) : Int) == 1) = decide (nu x % 2 = 1) := by
    rw [Bool.eq_iff_iff, beq_iff_eq, decide_eq_true_iff]
    omega
  generalize nu x = n at *
  generalize byt n 0 = b at *
  clear e0
  have HAND := Lib.hid hand
  have HRES := Lib.hid hres
  have HIX := Lib.hid hix
  clear hand hres hix
  go_enter Tryd.func18, Tryd.ntmps18
  go_wp2_with (refine wpList_load_row rfl 26 (.tmp 1) rfl w.heap.size rfl 26 _ (0, 0) _ (Row.new w (EL x) _) Tryd.underlying26 rfl (HS4.out _) ?_)
  refine (HBY.out _).mono ?_
  rintro e w1 ⟨rfl, hb1⟩
  go_wp2_with (refine wpList_index rfl 22 (.tmp 4) (.const (.int .i64 0)) rfl (.agg (By n 32).toArray) (.int .i64 0) (.int .u8 ((b : Nat) : Int)) rfl rfl (HIX.out _) ?_)
  go_ret
  refine ⟨?_, ((Below.refl _ _).alloc (Nat.le_refl _) _).trans (hb1.mono (by simp))⟩
  rw [← HRES.out, ← HAND.out]
  rfl

set_option maxHeartbeats 1600000 in
theorem zero_any {x : Lm} (hx : x.ok) (w : World) :
    Calls Tryd.prog 20 #[.agg (EL x).toArray] w fun e w' => e = .returned (.bool (decide (nu x = 0))) ∧ Below w.heap.size w w' := by
  have HBY := Lib.hid (bytes_any hx)
  have HS4 := Lib.hid el_info
  have HEQ := Lib.hid (fun w => beq_num (nu_256 x) (show 0 < 256 ^ 32 by decide) w)
  have HZ := Lib.hid by_zero
  generalize nu x = n at *
  go_enter Tryd.func20, Tryd.ntmps20
  go_wp2_with (refine wpList_load_row rfl 26 (.tmp 1) rfl w.heap.size rfl 26 _ (0, 0) _ (Row.new w (EL x) _) Tryd.underlying26 rfl (HS4.out _) ?_)
  refine (HBY.out _).mono ?_
  rintro e w1 ⟨rfl, hb1⟩
  go_wp2_with (first
    | (refine wpList_build0 rfl 22 rfl (.agg (By 0 32).toArray) (HZ.out _) ?_)
    | (refine wpList_binop _ .eql 22 22 (.tmp 4) (.tmp 5) rfl (by rfl) _ _ (.bool (decide (n = 0))) rfl rfl (bgrd _ _ _ _ _ _) (HEQ.out _) ?_))
  go_ret
  exact ⟨rfl, ((Below.refl _ _).alloc (Nat.le_refl _) _).trans (hb1.mono (by simp))⟩

set_option profiler true in
set_option maxHeartbeats 400000 in
theorem same_any {x y : Lm} (hx : x.ok) (hy : y.ok) (w : World) :
    Calls Tryd.prog 21 #[.agg (EL x).toArray, .agg (EL y).toArray] w fun e w' => e = .returned (.bool (decide (nu x = nu y))) ∧ Below w.heap.size w w' := by
  have HBX := Lib.hid (bytes_any hx)
  have HBY := Lib.hid (bytes_any hy)
  have HEQ := Lib.hid (fun w => beq_num (nu_256 x) (nu_256 y) w)
  have hr1 := (Row.new w (EL x) 26).alloc (.cells (EL y).toArray 26)
  have hr2 := Row.new1 w (.cells (EL x).toArray 26) (EL y) 26
  have hb2 := Below.alloc2 w (.cells (EL x).toArray 26) (.cells (EL y).toArray 26)
  go_enter Tryd.func21, Tryd.ntmps21
  go_wp2_with fail
  generalize (w.alloc (.cells (EL x).toArray 26)).alloc (.cells (EL y).toArray 26) = w2 at *
  have hSB : ∀ a b, Below w2.heap.size w2 a → Below a.heap.size a b → Below w2.heap.size w2 b := fun a b h k => h.trans (k.mono h.size)
  refine wp_flat_none (aD := ?aD) (S := fun w' => Below w2.heap.size w2 w') (vs := [(0, .agg (EL x).toArray), (1, .agg (By (nu x) 32).toArray), (2, .agg (EL y).toArray), (3, .agg (By (nu y) 32).toArray), (4, .bool (decide (nu x = nu y))), (5, .bool (decide (nu x = nu y)))]) (by kernel_rfl) ((Below.refl _ _).drew) hSB ?hD ?hk ?hend
  case hD =>
    refine .step (some 5) rfl rfl (by kernel_rfl) (Gives.load_row 26 (.tmp 2) rfl w.heap.size rfl 26 _ (fun w' h => hr1.belowAll h) Tryd.underlying26 rfl (el_info _)) ?_
    simp only [Act.put, List.setIfInBounds_toArray, List.set_cons_zero, List.set_cons_succ]
    refine .step (some 6) rfl rfl (by kernel_rfl) (Gives.call rfl Tryd.func16 (by kernel_rfl) (by kernel_rfl) rfl (fun w' _ => HBX.out w')) ?_
    simp only [Act.put, List.setIfInBounds_toArray, List.set_cons_zero, List.set_cons_succ]
    refine .step (some 7) rfl rfl (by kernel_rfl) (Gives.load_row 26 (.tmp 3) rfl (w.heap.size + 1) rfl 26 _ (fun w' h => hr2.belowAll h) Tryd.underlying26 rfl (el_info _)) ?_
    simp only [Act.put, List.setIfInBounds_toArray, List.set_cons_zero, List.set_cons_succ]
    refine .step (some 8) rfl rfl (by kernel_rfl) (Gives.call rfl Tryd.func16 (by kernel_rfl) (by kernel_rfl) rfl (fun w' _ => HBY.out w')) ?_
    simp only [Act.put, List.setIfInBounds_toArray, List.set_cons_zero, List.set_cons_succ]
    refine .step (some 9) rfl rfl (by kernel_rfl) (Gives.binop .eql 22 22 (.tmp 6) (.tmp 8) rfl _ _ _ rfl rfl (fun w' => bgrd _ _ _ _ _ _) (fun w' => HEQ.out w')) ?_
    simp only [Act.put, List.setIfInBounds_toArray, List.set_cons_zero, List.set_cons_succ]
    refine .step (some 4) rfl rfl (by kernel_rfl) (Gives.assign (x := .tmp 9) rfl rfl) ?_
    simp only [Act.put, List.setIfInBounds_toArray, List.set_cons_zero, List.set_cons_succ]
    exact .nil
  case hk => kernel_rfl
  case hend =>
    intro w' hb
    go_wp2_with fail
    go_ret
    exact ⟨rfl, hb2.trans (hb.mono hb2.size)⟩

end Go.Proofs.YthpbipebpaeagaaDoor
