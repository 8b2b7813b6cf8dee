/- slices.Compact of a row of marks. -/
import Derived.Test.YtocgeemjdlnabaaLe
import Derived.Test.YtocgeemjdlnabaaEf
import Derived.Test.YtocgeemjdlnabaaArrEq
namespace Go.Proofs.Ytocgeemjdlnabaa
set_option maxRecDepth 100000
set_option linter.unusedSimpArgs false
set_option linter.unusedVariables false
open Go.RowKit


theorem mk_part0 (x : Mk) (w : World) : (part 3 (Mk.c x).toArray 0).run Try.prog w = .ok (.int .i64 x.1) w := run_part_int w Try.underlying3 _ 0 _ rfl
theorem mk_part1 (x : Mk) (w : World) : (part 24 (Mk.c x).toArray 1).run Try.prog w = .ok (.agg x.2.c.toArray) w := by
  have ha := Try.isAgg24 w
  have hs := Try.sizeOf24 w
  unfold part
  simp only [Sem.run_bind, ha, hs, Result.andThen_ok, if_true, Sem.run_pure]
  congr 2
  unfold Mk.c
  apply Array.ext'
  rw [Array.toList_extract]
  simp [List.extract, x.2.c_len]
  exact List.take_of_length_le (by rw [x.2.c_len]; omega)
theorem hs_equalIn (x y : Hs) (d : Nat) (w : World) : (Op.equalIn (d + 2) 24 (.agg x.c.toArray) (.agg y.c.toArray)).run Try.prog w = .ok (decide (x = y)) w := by
  obtain ⟨i, hi⟩ : ∃ i, Try.prog.info? 5 = some i := Option.isSome_iff_exists.1 (by kernel_rfl)
  have h := run_equalIn_ints (P := Try.prog) w d (t := 24) (e := 5) (n := 32) (k := .u8) Try.underlying24 hi Try.underlying5 (by kernel_rfl) (x.1.map fun b => (b.toNat : Int)) (y.1.map fun b => (b.toNat : Int)) (by rw [List.length_map, x.2]) (by rw [List.length_map, y.2])
  rw [List.map_map, List.map_map] at h
  refine h.trans ?_
  congr 1
  rw [Bool.eq_iff_iff, decide_eq_true_iff, decide_eq_true_iff]
  constructor
  · intro h
    exact Subtype.ext ((List.map_inj_right (fun a b hab => UInt8.toNat_inj.1 (by have : (a.toNat : Int) = b.toNat := hab; omega))).1 h)
  · rintro rfl; rfl
theorem mk_equalIn (x y : Mk) (w : World) : (Op.equalIn 10000 26 (.agg (Mk.c x).toArray) (.agg (Mk.c y).toArray)).run Try.prog w = .ok (decide (x = y)) w := by
  have hS : Try.prog.underlying 26 = some (.struct (Try.prog.fieldsOf 26)) := by kernel_rfl
  have hp : Try.prog.stoodInHeld 26 = false := by kernel_rfl
  have e1 := run_equalIn_int (P := Try.prog) w 9998 3 .i64 .i64 x.1 y.1 Try.underlying3
  have e2 := hs_equalIn x.2 y.2 9997 w
  rw [show (10000 : Nat) = 9999 + 1 from rfl, run_equalIn_agg w 9999 _ _ _ hS hp]
  simp only [Program.fieldsOf, Try.underlying26, Op.eqFields]
  simp only [Sem.run_bind, Sem.run_ite, mk_part0, mk_part1, Result.andThen_ok, e1, e2, Sem.run_pure]
  have hxy : x = y ↔ x.1 = y.1 ∧ x.2 = y.2 := ⟨fun h => by rw [h]; exact ⟨rfl, rfl⟩, fun h => Prod.ext h.1 h.2⟩
  by_cases h1 : x.1 = y.1 <;> by_cases h2 : x.2 = y.2 <;> simp [hxy, h1, h2]
theorem hs_eqlM (x y : Mk) (w : World) : (binOp .eql 26 (.agg (Mk.c x).toArray) (.agg (Mk.c y).toArray)).run Try.prog w = .ok (.bool (decide (x = y))) w := by
  rw [run_eql_struct, mk_equalIn]; rfl
theorem hs_neqM (x y : Mk) (w : World) : (binOp .neq 26 (.agg (Mk.c x).toArray) (.agg (Mk.c y).toArray)).run Try.prog w = .ok (.bool (!decide (x = y))) w := by
  rw [run_neq_struct, mk_equalIn]; rfl
theorem hs_guardTM : Try.prog.eqGuardType Try.prog.depth 26 = false := by kernel_rfl
theorem hs_guardM (op : BinOp) (x y : Operand) (us vs : Array Value) (w : World) : (eqGuard op 26 x y (.agg us) (.agg vs)).run Try.prog w = .ok () w := run_eqGuard_agg w op _ x y us vs hs_guardTM
theorem ix_hsM (g o n cap k : Nat) (h : k < n) (w : World) : (Instr.indexAt 22 (.slice (some ⟨g, o, none⟩) n cap) (.int .i64 (k : Int))).run Try.prog w = .ok (.pointer (some ⟨g, o + k * 33, none⟩)) w := by
  have h1 : (0 : Int) ≤ (k : Int) := by omega
  have h2 : (k : Int) < (n : Int) := by omega
  go_simp
theorem ld_hsM (g o : Nat) (x : Mk) (w : World) (h : w.rangeAt g o (Mk.c x)) : (Instr.loadAt 26 (.pointer (some ⟨g, o, none⟩))).run Try.prog w = .ok (.agg (Mk.c x).toArray) w :=
  run_loadAt_mid w g o 26 (Mk.c x) _ h Try.underlying26 rfl (by rw [x.c_len]; kernel_rfl)

end Go.Proofs.Ytocgeemjdlnabaa
