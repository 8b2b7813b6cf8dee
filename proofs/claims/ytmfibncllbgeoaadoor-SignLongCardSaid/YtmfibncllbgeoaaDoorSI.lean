/- fld/RulesF, fld/Ra, fld/Re, fld/Rj, fld/Nu, fld/Rk, fld/Ro -/
import Derived.Test.YtmfibncllbgeoaaDoorSH
import Derived.Test.YtmfibncllbgeoaaDoorSA
import Derived.Test.YtmfibncllbgeoaaDoorSF
import Derived.Test.YtmfibncllbgeoaaDoorSG
namespace Go.Proofs.YtmfibncllbgeoaaDoor
section
set_option maxRecDepth 100000
set_option linter.unusedSimpArgs false
open Go.RowKit
/-- A small number. -/
def smL (n : Nat) : Lm := ⟨n, 0, 0, 0, 0⟩
theorem smL_ok {n : Nat} (h : n < 4294967296) : (smL n).ok := ⟨Nat.lt_of_lt_of_le h (by decide), Nat.zero_lt_succ _, Nat.zero_lt_succ _, Nat.zero_lt_succ _, Nat.zero_lt_succ _⟩
theorem nu_smL {n : Nat} (h : n < 4294967296) : nu (smL n) = n := by
  show V5 n 0 0 0 0 % _ = n
  rw [V5_lin]
  exact Nat.mod_eq_of_lt (by omega)
theorem sm_any (n : Nat) (h : n < 4294967296) (w : World) : Calls Tryd.prog 52 #[.int .u32 (n : Int)] w fun e w' => e = .returned (.agg (EL (smL n)).toArray) ∧ Below w.heap.size w w' := small_any n h w
theorem zero_is {x : Lm} (hx : x.ok) {b : Bool} (h : decide (nu x = 0) = b) (w : World) :
    Calls Tryd.prog 43 #[.agg (EL x).toArray] w fun e w' => e = .returned (.bool b) ∧ Below w.heap.size w w' := by
  rw [← h]; exact zero_any hx w
end
section
section
open Go.RowKit
/-- A number's eight digits, as cells. -/
def Nw (N : Nat) : List Value := Tabs .u32 (dw N) 8
/-- 2^256. -/
def W8 : Nat := 4294967296 ^ 8
end
section
set_option maxRecDepth 100000
set_option linter.unusedSimpArgs false
open Go.RowKit
theorem pp_W8 : pp < W8 := by decide
end
section
set_option maxRecDepth 100000
set_option linter.unusedSimpArgs false
open Go.RowKit
end
section
set_option maxRecDepth 100000
set_option linter.unusedSimpArgs false
open Go.RowKit
end
end
section
section
section
set_option maxRecDepth 100000
set_option linter.unusedSimpArgs false
open Go.RowKit
theorem dw_sum (N : Nat) : ∀ n, ((List.range n).map fun i => dw N i * 4294967296 ^ i).sum = N % 4294967296 ^ n
  | 0 => by rw [Nat.pow_zero, Nat.mod_one]; rfl
  | n + 1 => by
    rw [List.range_succ, List.map_append, List.sum_append, dw_sum N n, mod_dw]
    simp [Nat.mul_comm]
end
section
set_option maxRecDepth 100000
set_option linter.unusedSimpArgs false
open Go.RowKit
end
section
set_option maxRecDepth 100000
set_option linter.unusedSimpArgs false
open Go.RowKit
end
section
set_option maxRecDepth 100000
set_option linter.unusedSimpArgs false
open Go.RowKit
end
end
section
set_option maxRecDepth 100000
set_option linter.unusedSimpArgs false
open Go.RowKit
set_option maxHeartbeats 800000 in
theorem canonical_any (N : Nat) (hN : N < 256 ^ 32) (hok : (ofB N).ok) (w : World) :
    Calls Tryd.prog 42 #[.agg (By N 32).toArray] w fun e w' => e = .returned (.bool (decide (nu (ofB N) = N))) ∧ Below w.heap.size w w' := by
  have HOF := Lib.hid (fun wx => of_any N wx)
  have HBY := Lib.hid (bytes_any hok)
  have HEQ := Lib.hid (fun w => beq_num (nu_256 (ofB N)) hN w)
  have hr1 := Row.new w (By N 32) 22
  have hb2 := (Below.refl w.heap.size w).alloc (Nat.le_refl _) (.cells (By N 32).toArray 22)
  clear hN hok
  generalize ofB N = m at *
  go_enter Tryd.func42, Tryd.ntmps42
  go_wp2_with fail
  generalize w.alloc (.cells (By N 32).toArray 22) = w2 at *
  have hSB : ∀ a b, Below w2.heap.size w2 a → Below a.heap.size a b → Below w2.heap.size w2 b := fun a b h k => h.trans (k.mono h.size)
  refine wp_flat_none (aD := ?aD) (S := fun w' => Below w2.heap.size w2 w') (vs := [(0, .agg (By N 32).toArray), (1, .agg (EL m).toArray), (2, .agg (By (nu m) 32).toArray), (3, .agg (By N 32).toArray), (4, .bool (decide (nu m = N))), (5, .bool (decide (nu m = N)))]) (by kernel_rfl) ((Below.refl _ _).drew) hSB ?hD ?hk ?hend
  case hD =>
    refine .step (some 3) rfl rfl (by kernel_rfl) (Gives.load_row 22 (.tmp 1) rfl w.heap.size rfl 22 _ (fun w' h => hr1.belowAll h) Tryd.underlying22 rfl (by_info _)) ?_
    simp only [Act.put, List.setIfInBounds_toArray, List.set_cons_zero, List.set_cons_succ]
    refine .step (some 4) rfl rfl (by kernel_rfl) (Gives.call rfl Tryd.func28 (by kernel_rfl) (by kernel_rfl) rfl (fun w' _ => HOF.out w')) ?_
    simp only [Act.put, List.setIfInBounds_toArray, List.set_cons_zero, List.set_cons_succ]
    refine .step (some 5) rfl rfl (by kernel_rfl) (Gives.call rfl Tryd.func33 (by kernel_rfl) (by kernel_rfl) rfl (fun w' _ => HBY.out w')) ?_
    simp only [Act.put, List.setIfInBounds_toArray, List.set_cons_zero, List.set_cons_succ]
    refine .step (some 6) rfl rfl (by kernel_rfl) (Gives.load_row 22 (.tmp 1) rfl w.heap.size rfl 22 _ (fun w' h => hr1.belowAll h) Tryd.underlying22 rfl (by_info _)) ?_
    simp only [Act.put, List.setIfInBounds_toArray, List.set_cons_zero, List.set_cons_succ]
    refine .step (some 7) rfl rfl (by kernel_rfl) (Gives.binop .eql 22 22 (.tmp 5) (.tmp 6) rfl _ _ _ rfl rfl (fun w' => bgrd _ _ _ _ _ _) (fun w' => HEQ.out w')) ?_
    simp only [Act.put, List.setIfInBounds_toArray, List.set_cons_zero, List.set_cons_succ]
    refine .step (some 2) rfl rfl (by kernel_rfl) (Gives.assign (x := .tmp 7) rfl rfl) ?_
    simp only [Act.put, List.setIfInBounds_toArray, List.set_cons_zero, List.set_cons_succ]
    exact .nil
  case hk => kernel_rfl
  case hend =>
    intro w' hb
    go_wp2_with fail
    go_ret
    exact ⟨rfl, hb2.trans (hb.mono hb2.size)⟩
end
end
section
set_option maxRecDepth 100000
set_option linter.unusedSimpArgs false
open Go.RowKit
theorem nu_W8 (x : Lm) : nu x < W8 := Nat.lt_trans (nu_pp x) pp_W8
theorem Nw_map (N : Nat) : Nw N = ((List.range 8).map (dw N)).map fun x => Value.int .u32 ((x : Nat) : Int) := by unfold Nw; exact Tabs_map ..
theorem dws_inj {N M : Nat} (hN : N < W8) (hM : M < W8) : ((List.range 8).map (dw N) = (List.range 8).map (dw M)) ↔ N = M := by
  constructor
  · intro h
    have hs : ∀ X, X < W8 → ((List.range 8).map fun i => dw X i * 4294967296 ^ i).sum = X := fun X hX => (dw_sum X 8).trans (Nat.mod_eq_of_lt hX)
    have he : ((List.range 8).map fun i => dw N i * 4294967296 ^ i) = ((List.range 8).map fun i => dw M i * 4294967296 ^ i) := by
      refine List.map_congr_left fun i hi => ?_
      have h1 := congrArg (fun l : List Nat => l[i]?) h
      have h2 : i < 8 := List.mem_range.1 hi
      simp [h2] at h1
      rw [h1]
    rw [← hs N hN, ← hs M hM, he]
  · rintro rfl; rfl
theorem bool_ne (b : Bool) (w : World) : (binOp .neq 4 (.bool b) (.bool b)).run Tryd.prog w = .ok (.bool false) w := by cases b <;> kernel_rfl
theorem grd_boolne (x y : Operand) (b : Bool) (w : World) : (eqGuard .neq 4 x y (.bool b) (.bool b)).run Tryd.prog w = .ok () w := by cases b <;> kernel_rfl
/-- Bytes below p, and no others, are those of their number. -/
theorem canon_lt {N : Nat} (_h : N < 256 ^ 32) : decide (nu (ofB N) = N) = decide (N < pp) := by
  have hp := nu_pp (ofB N)
  by_cases h : N < pp
  · have e : nu (ofB N) = N := by
      rw [nu_ofB, Nat.mod_eq_of_lt (Nat.lt_trans h (by decide))]
      exact Nat.mod_eq_of_lt h
    rw [decide_eq_true h, decide_eq_true e]
  · rw [decide_eq_false h, decide_eq_false (fun e : nu (ofB N) = N => h (by rw [e] at hp; exact hp))]
theorem canonical_is (N : Nat) (hN : N < 256 ^ 32) (w : World) :
    Calls Tryd.prog 42 #[.agg (By N 32).toArray] w fun e w' => e = .returned (.bool (decide (N < pp))) ∧ Below w.heap.size w w' := by
  rw [← canon_lt hN]
  exact canonical_any N hN (ofB_ok N) w
end
section
section
open Go.RowKit
/-- Half a number, digit by digit, the highest one first. -/
def hf (N k i : Nat) : Nat := if i < k then dw N i else dw (N / 2) i
end
section
set_option maxRecDepth 100000
set_option linter.unusedSimpArgs false
open Go.RowKit
end
section
set_option maxRecDepth 100000
set_option linter.unusedSimpArgs false
open Go.RowKit
end
end
end Go.Proofs.YtmfibncllbgeoaaDoor
