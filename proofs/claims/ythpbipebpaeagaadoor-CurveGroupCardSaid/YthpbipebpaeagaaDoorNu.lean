/- The document's numbers beside the program's: what each call gives, told by the program's number. -/
import Derived.Test.YthpbipebpaeagaaDoorRj
import Derived.Test.YthpbipebpaeagaaDoorRe
import Derived.Test.YthpbipebpaeagaaDoorRulesF
namespace Go.Proofs.YthpbipebpaeagaaDoor
set_option maxRecDepth 100000
set_option linter.unusedSimpArgs false
open Go.RowKit

theorem nu_W8 (x : Lm) : nu x < W8 := Nat.lt_trans (nu_pp x) pp_W8
theorem ofr_nu (N : Nat) (w : World) :
    Calls Tryd.prog 15 #[.agg (By N 32).toArray] w fun e w' => e = .returned (.agg (Nw (nu (ofB N))).toArray) ∧ Below w.heap.size w w' := by
  rw [nu_ofB]
  exact ofr_ref N w
theorem addr_nu (x y : Lm) (w : World) :
    Calls Tryd.prog 28 #[.agg (Nw (nu x)).toArray, .agg (Nw (nu y)).toArray] w fun e w' => e = .returned (.agg (Nw (nu (addL x y))).toArray) ∧ Below w.heap.size w w' := by
  rw [nu_addP]
  refine addr_ref _ _ ?_ w
  have h1 := nu_pp x
  have h2 := nu_pp y
  have h3 := W8_38
  omega
theorem subr_nu (x : Lm) {y : Lm} (hy : y.ok) (w : World) :
    Calls Tryd.prog 30 #[.agg (Nw (nu x)).toArray, .agg (Nw (nu y)).toArray] w fun e w' => e = .returned (.agg (Nw (nu (subL x y))).toArray) ∧ Below w.heap.size w w' := by
  rw [nu_subP x hy]
  exact subr_ref _ _ (nu_pp x) (nu_pp y) w
theorem negr_nu {x : Lm} (hx : x.ok) (w : World) :
    Calls Tryd.prog 30 #[.agg (Nw 0).toArray, .agg (Nw (nu x)).toArray] w fun e w' => e = .returned (.agg (Nw (nu (negL x))).toArray) ∧ Below w.heap.size w w' := by
  rw [nu_negP hx]
  have h := subr_ref 0 (nu x) (by decide) (nu_pp x) w
  rwa [Nat.zero_add] at h
theorem mulr_nu (x y : Lm) (w : World) :
    Calls Tryd.prog 32 #[.agg (Nw (nu x)).toArray, .agg (Nw (nu y)).toArray] w fun e w' => e = .returned (.agg (Nw (nu (mulL x y))).toArray) ∧ Below w.heap.size w w' := by
  rw [nu_mulP]
  exact mulr_ref _ _ (nu_W8 x) (nu_W8 y) w
theorem smallr_nu (n : Nat) (h : n < 4294967296) (w : World) :
    Calls Tryd.prog 39 #[.int .u32 (n : Int)] w fun e w' => e = .returned (.agg (Nw (nu (smL n))).toArray) ∧ Below w.heap.size w w' := by
  rw [nu_smL h]
  exact smallr_ref n h w

theorem Nw_map (N : Nat) : Nw N = ((List.range 8).map (dw N)).map fun x => Value.int .u32 ((x : Nat) : Int) := by unfold Nw; exact Tabs_map ..
theorem nguard8 : Tryd.prog.eqGuardType Tryd.prog.depth 30 = false := by kernel_rfl
theorem ngrd (op : BinOp) (x y : Operand) (us vs : Array Value) (w : World) : (eqGuard op 30 x y (.agg us) (.agg vs)).run Tryd.prog w = .ok () w := run_eqGuard_agg w op _ x y us vs nguard8
theorem dws_inj {N M : Nat} (hN : N < W8) (hM : M < W8) : ((List.range 8).map (dw N) = (List.range 8).map (dw M)) ↔ N = M := by
  constructor
  · intro h
    have hs : ∀ X, X < W8 → ((List.range 8).map fun i => dw X i * 4294967296 ^ i).sum = X := fun X hX => (dw_sum X 8).trans (Nat.mod_eq_of_lt hX)
    have he : ((List.range 8).map fun i => dw N i * 4294967296 ^ i) = ((List.range 8).map fun i => dw M i * 4294967296 ^ i) := by
      refine List.map_congr_left fun i hi => ?_
      have h1 := congrArg (fun l : List Nat => l[i]?) h
      have h2 : i < 8 := List.mem_range.1 hi
      simp [h2] at h1
      rw [h1]
    rw [← hs N hN, ← hs M hM, he]
  · rintro rfl; rfl
theorem neq_num {N M : Nat} (hN : N < W8) (hM : M < W8) (w : World) : (binOp .eql 30 (.agg (Nw N).toArray) (.agg (Nw M).toArray)).run Tryd.prog w = .ok (.bool (decide (N = M))) w := by
  obtain ⟨i, hi⟩ := info_of_underlying Tryd.underlying28
  rw [Nw_map, Nw_map, run_eql_nats w Tryd.underlying30 hi Tryd.underlying28 (by kernel_rfl) _ _ (by simp) (by simp)]
  congr 3
  exact propext (dws_inj hN hM)
theorem nne_num {N M : Nat} (hN : N < W8) (hM : M < W8) (w : World) : (binOp .neq 30 (.agg (Nw N).toArray) (.agg (Nw M).toArray)).run Tryd.prog w = .ok (.bool (!decide (N = M))) w := by
  obtain ⟨i, hi⟩ := info_of_underlying Tryd.underlying28
  rw [Nw_map, Nw_map, run_neq_nats w Tryd.underlying30 hi Tryd.underlying28 (by kernel_rfl) _ _ (by simp) (by simp)]
  congr 4
  exact propext (dws_inj hN hM)
theorem neq_zero (x : Lm) (w : World) : (binOp .eql 30 (.agg (Nw (nu x)).toArray) (.agg (Nw 0).toArray)).run Tryd.prog w = .ok (.bool (decide (nu x = 0))) w := neq_num (nu_W8 x) W8_pos w
theorem neq_two (x y : Lm) (w : World) : (binOp .eql 30 (.agg (Nw (nu x)).toArray) (.agg (Nw (nu y)).toArray)).run Tryd.prog w = .ok (.bool (decide (nu x = nu y))) w := neq_num (nu_W8 x) (nu_W8 y) w
theorem nw_build (w : World) : (Instr.build 30 #[]).run Tryd.prog w = .ok (.agg (Nw 0).toArray) w := by
  rw [Nw_zero]
  exact run_build w 30 _ _ (by kernel_rfl)
theorem nw_alloc (w : World) : (Instr.alloc 30 true (.tuple #[])).run Tryd.prog w = .ok (.pointer (some ⟨w.heap.size, 0, none⟩)) (w.alloc (.cells (Nw 0).toArray 30)) := by
  rw [Nw_zero]
  kernel_rfl
theorem bool_ne (b : Bool) (w : World) : (binOp .neq 4 (.bool b) (.bool b)).run Tryd.prog w = .ok (.bool false) w := by cases b <;> kernel_rfl
theorem grd_boolne (x y : Operand) (b : Bool) (w : World) : (eqGuard .neq 4 x y (.bool b) (.bool b)).run Tryd.prog w = .ok () w := by cases b <;> kernel_rfl
/-- Bytes below p, and no others, are those of their number. -/
theorem canon_lt {N : Nat} (_h : N < 256 ^ 32) : decide (nu (ofB N) = N) = decide (N < pp) := by
  have hp := nu_pp (ofB N)
  by_cases h : N < pp
  · have e : nu (ofB N) = N := by
      rw [nu_ofB, Nat.mod_eq_of_lt (Nat.lt_trans h (by decide))]
      exact Nat.mod_eq_of_lt h
    rw [decide_eq_true h, decide_eq_true e]
  · rw [decide_eq_false h, decide_eq_false (fun e : nu (ofB N) = N => h (by rw [e] at hp; exact hp))]
theorem canonical_is (N : Nat) (hN : N < 256 ^ 32) (w : World) :
    Calls Tryd.prog 22 #[.agg (By N 32).toArray] w fun e w' => e = .returned (.bool (decide (N < pp))) ∧ Below w.heap.size w w' := by
  rw [← canon_lt hN]
  exact canonical_any N hN (ofB_ok N) w

end Go.Proofs.YthpbipebpaeagaaDoor
