/- Steps in memory, as plain data: which are great; paths held against each other, by the document and by the program. -/
import Derived.Test.YtpegkalhjnldkaaNm
import Derived.Test.YtpegkalhjnldkaaRows
import Derived.Deep.QuietTactic
import Derived.BigQuiet
import Derived.Laws.StructEq
import Derived.Deep.SlicePairs
import Derived.ChangeArms
import Derived.OpenShut
import Derived.SizedLaws
namespace Go.Proofs.Ytpegkalhjnldkaa
set_option maxRecDepth 100000
set_option linter.unusedSimpArgs false
set_option linter.unusedVariables false
open Go.RowKit Go.ChangeShapes Go.WideShapes

/-- A step, as plain data. -/
structure Stp where
  s : ByteArray
  id : Int
def stp (l : List Stp) (i : Nat) : Stp := l.getD i ⟨ByteArray.empty, 0⟩
structure StOk (x : Stp) : Prop where
  sz : x.s.size ≤ maxLen
  lo : 0 ≤ x.id
  hi : x.id < 18446744073709551616
def Sts (w : World) (a : Option Addr) (n : Nat) (l : List Stp) : Prop :=
  l.length = n ∧ (0 < n → ∃ ad, a = some ad ∧ ad.block < w.heap.size ∧ ∀ i x, l[i]? = some x → w.cell? (ad.add (i * 2)) = some (.string x.s) ∧ w.cell? ((ad.add (i * 2)).add 1) = some (.int .u64 x.id))
theorem Sts.keep {w w' : World} {a : Option Addr} {n : Nat} {l : List Stp} (h : Sts w a n l) (hb : ∀ ad, a = some ad → ad.block < w.heap.size → w'.heap[ad.block]? = w.heap[ad.block]?) (hs : w.heap.size ≤ w'.heap.size) : Sts w' a n l :=
  ⟨h.1, fun hn => by
    obtain ⟨ad, e, hl, hc⟩ := h.2 hn
    have g : ∀ j, w'.cell? (ad.add j) = w.cell? (ad.add j) := fun j => World.cell?_of_block (by rw [add_block]; exact hb ad e hl)
    refine ⟨ad, e, Nat.lt_of_lt_of_le hl hs, fun i x hx => ?_⟩
    obtain ⟨h1, h2⟩ := hc i x hx
    rw [add_add] at h2 ⊢
    exact ⟨(g _).trans h1, (g _).trans h2⟩⟩
theorem Sts.below {w w' : World} {a : Option Addr} {n : Nat} {l : List Stp} (h : Sts w a n l) (hb : Below w.heap.size w w') : Sts w' a n l :=
  h.keep (fun ad _ hl => hb.block _ hl) hb.size
theorem Sts.drewN {w : World} {a : Option Addr} {n : Nat} {l : List Stp} (h : Sts w a n l) (q : Nat) : Sts (w.drewN q) a n l := h.keep (fun _ _ _ => rfl) (Nat.le_refl _)
theorem stp_get {l : List Stp} {i : Nat} (h : i < l.length) : l[i]? = some (stp l i) := by
  unfold stp
  rw [List.getD, List.getElem?_eq_getElem h]
  rfl
theorem Sts.at_ {w : World} {a : Option Addr} {n : Nat} {l : List Stp} (h : Sts w a n l) {i : Nat} (hi : i < n) :
    ∃ ad, a = some ad ∧ w.cell? (ad.add (i * 2)) = some (.string (stp l i).s) ∧ w.cell? ⟨(ad.add (i * 2)).block, (ad.add (i * 2)).off + 1, none⟩ = some (.int .u64 (stp l i).id) := by
  obtain ⟨ad, e, _, hc⟩ := h.2 (by omega)
  obtain ⟨h1, h2⟩ := hc i _ (stp_get (by rw [h.1]; exact hi))
  exact ⟨ad, e, h1, h2⟩
theorem Sts.take {w : World} {a : Option Addr} {n : Nat} {l : List Stp} (h : Sts w a n l) {i : Nat} (hi : i ≤ n) : Sts w a i (l.take i) := by
  have hl := h.1
  refine ⟨by simp; omega, fun hn => ?_⟩
  obtain ⟨ad, e, h1, hc⟩ := h.2 (by omega)
  refine ⟨ad, e, h1, fun j u hu => hc j u ?_⟩
  rw [List.getElem?_take] at hu
  split at hu
  · exact hu
  · cases hu
theorem ok_get {l : List Stp} (h : ∀ x ∈ l, StOk x) {i : Nat} (hi : i < l.length) : StOk (stp l i) := h _ (List.mem_of_getElem? (stp_get hi))

/-- Whether a path is greater than is asked of. -/
def greatP (l : List Stp) : Bool := decide (40 < l.length) || (List.range l.length).any fun i => decide (100 < (stp l i).s.size)
theorem great_yes {l : List Stp} {j : Nat} (hj : j < l.length) (h : 100 < (stp l j).s.size) : greatP l = true := by
  unfold greatP
  rw [Bool.or_eq_true, List.any_eq_true]
  exact .inr ⟨j, List.mem_range.2 hj, decide_eq_true h⟩
theorem great_no {l : List Stp} (h1 : ¬ 40 < l.length) (h : ∀ i, i < l.length → ¬ 100 < (stp l i).s.size) : greatP l = false := by
  unfold greatP
  rw [decide_eq_false h1, Bool.false_or, ← Bool.not_eq_true, List.any_eq_true]
  rintro ⟨i, hi, hd⟩
  exact h i (List.mem_range.1 hi) (of_decide_eq_true hd)
theorem great_of {l : List Stp} (h : greatP l = false) : l.length ≤ 40 ∧ ∀ i, i < l.length → (stp l i).s.size ≤ 100 := by
  unfold greatP at h
  rw [Bool.or_eq_false_iff] at h
  refine ⟨by have := of_decide_eq_false h.1; omega, fun i hi => ?_⟩
  have h2 := h.2
  rw [← Bool.not_eq_true, List.any_eq_true] at h2
  exact Nat.le_of_not_lt fun hc => h2 ⟨i, List.mem_range.2 hi, decide_eq_true hc⟩

/-- Whether two steps are the same, and whether two paths are. -/
def eqSt (x y : Stp) : Bool := eqS x.s y.s && x.id == y.id
def eqP (l m : List Stp) : Bool := decide (l.length = m.length) && (List.range l.length).all fun i => eqSt (stp l i) (stp m i)
theorem eqP_no {l m : List Stp} {j : Nat} (hj : j < l.length) (h : eqSt (stp l j) (stp m j) = false) : eqP l m = false := by
  unfold eqP
  rw [← Bool.not_eq_true, Bool.and_eq_true, List.all_eq_true]
  rintro ⟨_, h2⟩
  rw [h2 j (List.mem_range.2 hj)] at h
  cases h
theorem eqP_yes {l m : List Stp} (hl : l.length = m.length) (h : ∀ j, j < l.length → eqSt (stp l j) (stp m j) = true) : eqP l m = true := by
  unfold eqP
  rw [decide_eq_true hl, Bool.true_and, List.all_eq_true]
  exact fun i hi => h i (List.mem_range.1 hi)
theorem eqP_len {l m : List Stp} (hl : l.length ≠ m.length) : eqP l m = false := by
  unfold eqP
  rw [decide_eq_false hl]
  rfl


/-- A whole step loaded; an element's place; two steps held against each other. -/
theorem run_loadVar_st {P : Program} (w : World) (a : Addr) (ty : TypeId) (cs : List Value) (hc : ∀ j v, cs[j]? = some v → w.cell? (a.add j) = some v) {fs : Array Field}
    (hu : P.underlying ty = some (.struct fs)) (hi : (P.info? ty).map (·.size) = some cs.length) : (loadVar ty a).run P w = .ok (.agg cs.toArray) w := by
  have hl : (loadCells a cs.length).run P w = .ok cs.toArray w := run_loadCells_list (P := P) w a cs hc
  cases hq : P.info? ty with
  | none => simp [hq] at hi
  | some i =>
    have hs : i.size = cs.length := by simpa [hq] using hi
    have hagg : (isAgg ty).run P w = .ok true w := by
      unfold isAgg
      rw [Sem.run_bind, run_underlying hu w]
      simp
    simp [loadVar, Sem.run_bind, hagg, sizeOf, typeInfo, hq, hs, hl]
theorem st_size : (Try.prog.info? 69).map (·.size) = some 2 := by kernel_rfl
theorem ld_st {w : World} {A : Addr} {s : ByteArray} {i : Int} (h0 : w.cell? A = some (.string s)) (h1 : w.cell? ⟨A.block, A.off + 1, none⟩ = some (.int .u64 i)) :
    (Instr.loadAt 69 (.pointer (some A))).run Try.prog w = .ok (.agg #[.string s, .int .u64 i]) w := by
  have hv := run_loadVar_st (P := Try.prog) w A 69 [.string s, .int .u64 i] (fun j v hj => by
    match j, hj with
    | 0, hj => simp at hj; subst hj; exact h0
    | 1, hj => simp at hj; subst hj; exact h1) Try.underlying69 st_size
  simp only [Instr.loadAt, Instr.sureAddr, Sem.run_bind, Sem.run_pure, Result.andThen_ok, hv]
theorem ix_st (ad : Addr) (n cap k : Nat) (h : k < n) (w : World) : (Instr.indexAt 38 (.slice (some ad) n cap) (.int .i64 (k : Int))).run Try.prog w = .ok (.pointer (some (ad.add (k * 2)))) w := by
  have h1 : (0 : Int) ≤ (k : Int) := by omega
  have h2 : (k : Int) < (n : Int) := by omega
  go_simp
theorem eqg_st (x y : Operand) (s t : ByteArray) (i j : Int) (w : World) : (eqGuard .neq 69 x y (.agg #[.string s, .int .u64 i]) (.agg #[.string t, .int .u64 j])).run Try.prog w = .ok () w :=
  run_eqGuard_agg w .neq 69 x y _ _ (by kernel_rfl)
theorem ne_st (s t : ByteArray) (i j : Int) (w : World) : (binOp .neq 69 (.agg #[.string s, .int .u64 i]) (.agg #[.string t, .int .u64 j])).run Try.prog w = .ok (.bool (!eqSt ⟨s, i⟩ ⟨t, j⟩)) w := by
  rw [run_neq_struct]
  have h : (Op.equalIn 10000 69 (.agg #[.string s, .int .u64 i]) (.agg #[.string t, .int .u64 j])).run Try.prog w = .ok (eqSt ⟨s, i⟩ ⟨t, j⟩) w := by
    unfold eqSt eqS
    rw [run_equalIn_struct w 9999 69 _ _ (by kernel_rfl) (by kernel_rfl)]
    go_simp
    by_cases h1 : s.toList = t.toList
    · by_cases h2 : i = j
      · simp [h1, h2]
      · simp [h1, h2]
    · simp [h1]
  rw [h]
  rfl


/-- A load, by its run. -/
theorem wpList_loadr {P : Program} {ops : Array Oper} {rest : List Oper} {o : Oper} {a : Act} {w : World} {Q : Exit → Act → World → Prop} (hgd : o.guard = none) (ty : TypeId) (x : Operand) (ho : o.op = .load ty x) (u r : Value) (hx : a.eval x = u)
    (hi : (Instr.loadAt ty u).run P w = .ok r w) (h : wpList P ops Q rest (a.put o.dst r) w) : wpList P ops Q (o :: rest) a w := by
  refine wpList_plain hgd fun _ hK => ?_
  unfold Oper.wp execOp
  simp only [ho, Sem.run_bind, Sem.run_pure, Result.andThen_ok, hx, hi]
  exact hK _ _ h
theorem below_new (w : World) (o : Obj) : Below w.heap.size w (w.alloc o) := (Below.refl _ _).alloc (Nat.le_refl _) _
theorem below_then {w w' : World} {o : Obj} (h : Below (w.alloc o).heap.size (w.alloc o) w') : Below w.heap.size w w' := (below_new w o).trans (h.mono (below_new w o).size)

end Go.Proofs.Ytpegkalhjnldkaa
