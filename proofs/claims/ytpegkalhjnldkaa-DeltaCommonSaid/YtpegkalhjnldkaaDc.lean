/- The document's Common, walked. -/
import Derived.Test.YtpegkalhjnldkaaDb
import Derived.Test.YtpegkalhjnldkaaTk
namespace Go.Proofs.Ytpegkalhjnldkaa
set_option maxRecDepth 100000
set_option linter.unusedSimpArgs false
set_option linter.unusedVariables false
open Go.RowKit

/-- A row of the table: what the suffix s of one list has in common with the other's suffixes, from the place k on. -/
def TR (s b : List Int) (m k : Nat) : List Value := (List.range (m + 1)).map fun j => .int .i64 ((if k ≤ j then Lcs.lcs s (b.drop j) else 0 : Nat) : Int)
theorem TR_get (s b : List Int) {m k j : Nat} (h : j ≤ m) : (TR s b m k)[j]? = some (.int .i64 ((if k ≤ j then Lcs.lcs s (b.drop j) else 0 : Nat) : Int)) := by
  simp [TR, List.getElem?_range (show j < m + 1 by omega)]
theorem TR_length (s b : List Int) (m k : Nat) : (TR s b m k).length = m + 1 := by simp [TR]
theorem TR_set (s b : List Int) {m k : Nat} (h : k ≤ m) : (TR s b m (k + 1)).set k (.int .i64 ((Lcs.lcs s (b.drop k) : Nat) : Int)) = TR s b m k := by
  refine List.ext_getElem? fun j => ?_
  by_cases hj : j ≤ m
  · rw [List.getElem?_set, TR_get _ _ hj, TR_get _ _ hj]
    by_cases e : k = j
    · subst e; rw [if_pos rfl, if_pos (by rw [TR_length]; omega), if_pos (Nat.le_refl _)]
    · rw [if_neg e]
      by_cases h2 : k ≤ j
      · rw [if_pos h2, if_pos (by omega)]
      · rw [if_neg h2, if_neg (by omega)]
  · rw [List.getElem?_eq_none (by rw [List.length_set, TR_length]; omega), List.getElem?_eq_none (by rw [TR_length]; omega)]
theorem TR_first (s b : List Int) (m : Nat) (hb : b.length = m) : List.replicate (m + 1) (Value.int .i64 0) = TR s b m m := by
  refine List.ext_getElem? fun j => ?_
  by_cases hj : j ≤ m
  · rw [TR_get _ _ hj, List.getElem?_replicate, if_pos (by omega)]
    by_cases h : m ≤ j
    · rw [if_pos h, List.drop_eq_nil_of_le (by omega), Lcs.lcs_nil_right]; rfl
    · rw [if_neg h]; rfl
  · rw [List.getElem?_eq_none (by simp; omega), List.getElem?_eq_none (by rw [TR_length]; omega)]
theorem TR_none (b : List Int) (m k : Nat) : TR [] b m k = TR [] b m 0 := by
  unfold TR
  refine List.map_congr_left fun j _ => ?_
  simp [Lcs.lcs_nil_left]

theorem made_one (v : Value) (hv : v.cells = #[v]) (n : Nat) : madeCells v.cells n = (List.replicate n v).toArray := by
  rw [hv]
  refine Array.ext (by simp [madeCells]) fun k h1 h2 => ?_
  simp [madeCells]
  have e : k % 1 = 0 := Nat.mod_one k
  simp [e]
theorem below_newD (w : World) (o : Obj) : Below w.heap.size w (w.alloc o) := (Below.refl _ _).alloc (Nat.le_refl _) _
theorem row_info : ∃ i : TypeInfo, Try.prog.info? 46 = some i ∧ i.zero = some (.slice none 0 0) ∧ i.size = 1 ∧ i.bytes = 24 := by
  refine ⟨_, rfl, ?_, ?_, ?_⟩ <;> kernel_rfl
theorem int_info : ∃ i : TypeInfo, Try.prog.info? 3 = some i ∧ i.zero = some (.int .i64 0) ∧ i.size = 1 ∧ i.bytes = 8 := by
  refine ⟨_, rfl, ?_, ?_, ?_⟩ <;> kernel_rfl
theorem mk_rows (n : Nat) (hn : n ≤ 60) (w : World) : (Instr.makeSlice 49 (.int .i64 ((n : Int) + 1)) (.int .i64 ((n : Int) + 1))).run Try.prog w = .ok (.slice (some ⟨w.heap.size, 0, none⟩) (n + 1) (n + 1)) (w.alloc (.cells (List.replicate (n + 1) (Value.slice none 0 0)).toArray 46)) := by
  obtain ⟨i, hi, hz, hs, hb⟩ := row_info
  have h := run_make (P := Try.prog) (w := w) 49 46 i _ Try.underlying49 hi hz .i64 .i64 ((n : Int) + 1) ((n : Int) + 1) (by omega) (by omega) (by rw [hb]; omega) (by omega)
  rw [h, hs, show ((n : Int) + 1).toNat = n + 1 by omega, Nat.mul_one, made_one _ rfl]
theorem mk_ints (n : Nat) (hn : n ≤ 60) (w : World) : (Instr.makeSlice 46 (.int .i64 ((n : Int) + 1)) (.int .i64 ((n : Int) + 1))).run Try.prog w = .ok (.slice (some ⟨w.heap.size, 0, none⟩) (n + 1) (n + 1)) (w.alloc (.cells (List.replicate (n + 1) (Value.int .i64 0)).toArray 3)) := by
  obtain ⟨i, hi, hz, hs, hb⟩ := int_info
  have h := run_make (P := Try.prog) (w := w) 46 3 i _ Try.underlying46 hi hz .i64 .i64 ((n : Int) + 1) ((n : Int) + 1) (by omega) (by omega) (by rw [hb]; omega) (by omega)
  rw [h, hs, show ((n : Int) + 1).toNat = n + 1 by omega, Nat.mul_one, made_one _ rfl]
-- LAWS
theorem ix_t0 (b n c k : Nat) (h : k < n) (w : World) : (Instr.indexAt 49 (.slice (some ⟨b, 0, none⟩) n c) (.int .i64 (k : Int))).run Try.prog w = .ok (.pointer (some ⟨b, k, none⟩)) w := by
  have := ix_t b 0 n c k h w
  rwa [Nat.zero_add] at this
theorem ix_i0 (b n c k : Nat) (h : k < n) (w : World) : (Instr.indexAt 46 (.slice (some ⟨b, 0, none⟩) n c) (.int .i64 (k : Int))).run Try.prog w = .ok (.pointer (some ⟨b, k, none⟩)) w := by
  have := ix_i b 0 n c k h w
  rwa [Nat.zero_add] at this
theorem st_int {p : Addr} {old : Value} {z : Int} {w : World} (hc : w.cell? p = some old) (hf : w.frozen? p = false) : (Instr.storeAt 3 (.pointer (some p)) (.int .i64 z)).run Try.prog w = .ok () (w.setCell p (.int .i64 z)) := by
  go_simp
theorem st_row {p : Addr} {old : Value} {w : World} (hc : w.cell? p = some old) (hf : w.frozen? p = false) {a : Option Addr} {n c : Nat} : (Instr.storeAt 46 (.pointer (some p)) (.slice a n c)).run Try.prog w = .ok () (w.setCell p (.slice a n c)) := by
  go_simp
theorem wpList_store_cell {P : Program} {o : Oper} {a : Act} {w : World} {Q : Exit → Act → World → Prop} {ops : Array Oper} {rest : List Oper} (hgd : o.guard = none) (t : TypeId) (x y : Operand) (ho : o.op = .store t x y) (p : Addr) (hx : a.eval x = .pointer (some p)) (v : Value) (hy : a.eval y = v) (hr : (Instr.storeAt t (.pointer (some p)) v).run P w = .ok () (w.setCell p v))
    (h : wpList P ops Q rest (a.put o.dst undef) (w.setCell p v)) : wpList P ops Q (o :: rest) a w :=
  wpList_plain hgd fun K hK => wp_store_cell t x y ho p hx v hy hr (hK _ _ h)
theorem reads_max {P : Program} {S : World → Prop} {o : Oper} {a : Act} {ts : Array TypeId} (x y : Operand) (ho : o.op = .call { callee := .builtin .max, args := #[x, y], argTypes := ts }) (p q : Nat) (hx : a.eval x = .int .i64 (p : Int)) (hy : a.eval y = .int .i64 (q : Int)) :
    Reads P S o (.int .i64 ((max p q : Nat) : Int)) a := fun w _ => by
  have h : (if (q : Int) > (p : Int) then (q : Int) else (p : Int)) = ((max p q : Nat) : Int) := by split <;> omega
  simp [execOp, ho, resolve, invoke, builtin, hx, hy, Result.andThen, run_max_int2]
  first | omega | (split <;> omega)
theorem late_okD {b : Bool} {p : Prop} (h : (b == false) = true) : b = true → p := fun e => by rw [e] at h; cases h
theorem eql_u (x y : Int) (w : World) : (binOp .eql 39 (.int .u64 x) (.int .u64 y)).run Try.prog w = .ok (.bool (decide (x = y))) w := by
  go_simp
  rw [Bool.eq_iff_iff]; simp
theorem eql_ut {x y : Int} (h : x = y) (w : World) : (binOp .eql 39 (.int .u64 x) (.int .u64 y)).run Try.prog w = .ok (.bool true) w := by
  rw [eql_u, decide_eq_true h]
theorem eql_uf {x y : Int} (h : ¬ x = y) (w : World) : (binOp .eql 39 (.int .u64 x) (.int .u64 y)).run Try.prog w = .ok (.bool false) w := by
  rw [eql_u, decide_eq_false h]
theorem lcs_le (a b : List Int) : Lcs.lcs a b ≤ a.length := by
  obtain ⟨c, h, _, e⟩ := Lcs.ex_lcs a b
  rw [← e]; exact h.length_le
theorem lcs_at {a b : List Int} {i j : Nat} {x y : Int} (hx : a[i]? = some x) (hy : b[j]? = some y) : Lcs.lcs (a.drop i) (b.drop j) = max (max (Lcs.lcs (a.drop (i + 1)) (b.drop j)) (Lcs.lcs (a.drop i) (b.drop (j + 1)))) (if x = y then 1 + Lcs.lcs (a.drop (i + 1)) (b.drop (j + 1)) else 0) := by
  obtain ⟨hi, rfl⟩ := List.getElem?_eq_some_iff.1 hx
  obtain ⟨hj, rfl⟩ := List.getElem?_eq_some_iff.1 hy
  conv => lhs; rw [List.drop_eq_getElem_cons hi, List.drop_eq_getElem_cons hj, Lcs.lcs_cons]
  rw [← List.drop_eq_getElem_cons hi, ← List.drop_eq_getElem_cons hj]

end Go.Proofs.Ytpegkalhjnldkaa
