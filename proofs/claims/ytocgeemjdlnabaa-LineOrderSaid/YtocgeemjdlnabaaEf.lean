/- slices.Compact of a row of names. -/
import Derived.Test.YtocgeemjdlnabaaEe
import Derived.Test.YtocgeemjdlnabaaArrEq
namespace Go.Proofs.Ytocgeemjdlnabaa
set_option maxRecDepth 100000
set_option linter.unusedSimpArgs false
set_option linter.unusedVariables false
open Go.RowKit

theorem ex_ixE {P : Program} {o : Oper} {a : Act} {w : World} (T : TypeId) (x y : Operand) (ho : o.op = .indexAddr T x y) (u v r : Value) (hx : a.eval x = u) (hy : a.eval y = v) (hi : (Instr.indexAt T u v).run P w = .ok r w) : (execOp a.eval o).run P w = .ok (.value r) w := by
  unfold execOp
  simp only [ho, hx, hy, Sem.run_bind, Sem.run_pure, hi, Result.andThen_ok]
theorem ex_ldE {P : Program} {o : Oper} {a : Act} {w : World} (T : TypeId) (x : Operand) (ho : o.op = .load T x) (u r : Value) (hx : a.eval x = u) (hi : (Instr.loadAt T u).run P w = .ok r w) : (execOp a.eval o).run P w = .ok (.value r) w := by
  unfold execOp
  simp only [ho, hx, Sem.run_bind, Sem.run_pure, hi, Result.andThen_ok]
theorem ex_binE {P : Program} {o : Oper} {a : Act} {w : World} (op : BinOp) (T T2 : TypeId) (x y : Operand) (ho : o.op = .binOp op T x y T2) (u v r : Value) (hx : a.eval x = u) (hy : a.eval y = v)
    (hg : (eqGuard op T x y u v).run P w = .ok () w) (hi : (binOp op T u v).run P w = .ok r w) : (execOp a.eval o).run P w = .ok (.value r) w := by
  unfold execOp
  simp only [ho, hx, hy, Sem.run_bind, Sem.run_pure, hg, hi, Result.andThen_ok]
theorem bs_natE (k : List UInt8) : Bs k = (k.map UInt8.toNat).map fun x => .int .u8 ((x : Nat) : Int) := by simp [Bs]
theorem hs_eql (x y : Hs) (w : World) : (binOp .eql 24 (.agg x.c.toArray) (.agg y.c.toArray)).run Try.prog w = .ok (.bool (decide (x = y))) w := by
  obtain ⟨i, hi⟩ : ∃ i, Try.prog.info? 5 = some i := Option.isSome_iff_exists.1 (by kernel_rfl)
  have h := run_eql_nats (P := Try.prog) w (t := 24) (e := 5) (n := 32) (k := .u8) Try.underlying24 hi Try.underlying5 (by kernel_rfl) (x.1.map UInt8.toNat) (y.1.map UInt8.toNat) (by rw [List.length_map, x.2]) (by rw [List.length_map, y.2])
  rw [← bs_natE, ← bs_natE] at h
  rw [show x.c = Bs x.1 from rfl, show y.c = Bs y.1 from rfl, h]
  congr 2
  rw [Bool.eq_iff_iff, decide_eq_true_iff, decide_eq_true_iff]
  constructor
  · intro h
    exact Subtype.ext ((List.map_inj_right (fun a b hab => UInt8.toNat_inj.1 hab)).1 h)
  · rintro rfl; rfl
theorem hs_neq (x y : Hs) (w : World) : (binOp .neq 24 (.agg x.c.toArray) (.agg y.c.toArray)).run Try.prog w = .ok (.bool (!decide (x = y))) w := by
  obtain ⟨i, hi⟩ : ∃ i, Try.prog.info? 5 = some i := Option.isSome_iff_exists.1 (by kernel_rfl)
  have h := run_neq_nats (P := Try.prog) w (t := 24) (e := 5) (n := 32) (k := .u8) Try.underlying24 hi Try.underlying5 (by kernel_rfl) (x.1.map UInt8.toNat) (y.1.map UInt8.toNat) (by rw [List.length_map, x.2]) (by rw [List.length_map, y.2])
  rw [← bs_natE, ← bs_natE] at h
  rw [show x.c = Bs x.1 from rfl, show y.c = Bs y.1 from rfl, h]
  congr 3
  rw [Bool.eq_iff_iff, decide_eq_true_iff, decide_eq_true_iff]
  constructor
  · intro h
    exact Subtype.ext ((List.map_inj_right (fun a b hab => UInt8.toNat_inj.1 hab)).1 h)
  · rintro rfl; rfl
theorem hs_guardT : Try.prog.eqGuardType Try.prog.depth 24 = false := by kernel_rfl
theorem hs_guard (op : BinOp) (x y : Operand) (us vs : Array Value) (w : World) : (eqGuard op 24 x y (.agg us) (.agg vs)).run Try.prog w = .ok () w := run_eqGuard_agg w op _ x y us vs hs_guardT
theorem ix_hs (g o n cap k : Nat) (h : k < n) (w : World) : (Instr.indexAt 32 (.slice (some ⟨g, o, none⟩) n cap) (.int .i64 (k : Int))).run Try.prog w = .ok (.pointer (some ⟨g, o + k * 32, none⟩)) w := by
  have h1 : (0 : Int) ≤ (k : Int) := by omega
  have h2 : (k : Int) < (n : Int) := by omega
  go_simp
theorem ld_hs (g o : Nat) (x : Hs) (w : World) (h : w.rangeAt g o x.c) : (Instr.loadAt 24 (.pointer (some ⟨g, o, none⟩))).run Try.prog w = .ok (.agg x.c.toArray) w :=
  run_loadAt_mid w g o 24 x.c _ h Try.underlying24 rfl (by rw [x.c_len]; kernel_rfl)
theorem sub_one (k : Nat) (h : 0 < k) (hb : k < 4611686018427387904) (w : World) : (binOp .sub 3 (.int .i64 (k : Int)) (.int .i64 1)).run Try.prog w = .ok (.int .i64 ((k - 1 : Nat) : Int)) w := by
  have e1 : (k : Int) - 1 = ((k - 1 : Nat) : Int) := by omega
  have e2 : IntKind.i64.wrap ((k - 1 : Nat) : Int) = ((k - 1 : Nat) : Int) := by rw [IntKind.wrap_i64]; omega
  go_simp
theorem sub_guard (x y : Operand) (u v : Value) (w : World) : (eqGuard .sub 3 x y u v).run Try.prog w = .ok () w := by rfl
/-- clear of elements of any width. -/
theorem run_clearz {P : Program} (w : World) (t e ty : TypeId) (z : Value) (m : Nat) (ht : P.underlying t = some (.slice e)) (hv : ∀ w, (zeroValue e).run P w = .ok z w) (hm : z.cells.size = m) (h1 : ∀ v ∈ z.cells.toList, v.oneCell' = true) (hm0 : 0 < m) (b o n c : Nat) (hn : 0 < n)
    (hc : w.there b o (n * m)) :
    ∃ vs : List Value, vs.length = n * m ∧ (Builtin.clear_ #[t] ty #[.slice (some ⟨b, o, none⟩) n c]).run P w = .ok (.tuple #[]) (w.setCells b o vs) := by
  have hl : (Builtin.zeroCells z.cells n).toList.length = n * m := by simp [Builtin.zeroCells, hm]
  refine ⟨(Builtin.zeroCells z.cells n).toList, hl, ?_⟩
  have h1' : ∀ v ∈ (Builtin.zeroCells z.cells n).toList, v.oneCell' = true := by
    intro v hv
    simp only [Builtin.zeroCells, Array.toList_map, List.mem_map] at hv
    obtain ⟨i, hi, rfl⟩ := hv
    have hlt : i % z.cells.size < z.cells.size := Nat.mod_lt _ (by omega)
    rw [getElem!_pos z.cells _ hlt]
    exact h1 _ (by simp)
  have hst := run_storeCells_cells (P := P) b o (Builtin.zeroCells z.cells n).toList 0 w (fun j hj => by rw [Nat.add_zero]; exact (hc j (by omega)).1) (fun j hj => by rw [Nat.add_zero]; exact (hc j (by omega)).2) h1'
  simp only [Nat.add_zero] at hst
  obtain ⟨q, rfl⟩ : ∃ q, n = q + 1 := ⟨n - 1, by omega⟩
  simp [Builtin.clear_, run_underlying ht, hv, hst]
theorem run_clear0 {P : Program} (w : World) (t e ty : TypeId) (ht : P.underlying t = some (.slice e)) (b : Option Addr) (c : Nat) : (Builtin.clear_ #[t] ty #[.slice b 0 c]).run P w = .ok (.tuple #[]) w := by
  cases b <;> simp [Builtin.clear_, run_underlying ht]

end Go.Proofs.Ytocgeemjdlnabaa
