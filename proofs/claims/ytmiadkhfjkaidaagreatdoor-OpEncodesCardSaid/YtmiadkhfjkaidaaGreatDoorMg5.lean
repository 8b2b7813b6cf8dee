/- Two arrays of integers held against each other: over any program. An element of an array of integers that is held as a value: over any program. What single operations give, for regions that draw their order. Over any program. Whether a text is a name: the document's Name, the program's. -/
import Derived.Test.YtmiadkhfjkaidaaGreatDoorMg2
import Derived.ChangeKeysEq
import Derived.Laws.StructEq
import Derived.BigFrame
import Derived.Test.YtmiadkhfjkaidaaGreatDoorMg4
import Derived.OrdersHeld
import Derived.Test.YtmiadkhfjkaidaaGreatDoorMg3
namespace Go.Proofs.YtmiadkhfjkaidaaGreatDoor
section
open Go.RowKit

section
variable {P : Program} (w : World)
theorem run_part_int {e : TypeId} {k : IntKind} (he : P.underlying e = some (.int k)) (xs : Array Value) (j : Nat) (v : Value) (h : xs[j]? = some v) : (part e xs j).run P w = .ok v w := by
  have hi : (isAgg e).run P w = .ok false w := by
    simp [isAgg, run_underlying he]
  simp [part, hi, h]

theorem run_eqItems_ints (d : Nat) {e : TypeId} {k : IntKind} (he : P.underlying e = some (.int k)) (xs ys : List Int) : ∀ (is : List Nat), (∀ i ∈ is, i < xs.length ∧ i < ys.length) →
    (Op.eqItems (d + 1) e 1 (xs.map (Value.int k)).toArray (ys.map (Value.int k)).toArray is).run P w = .ok (is.all fun i => xs[i]? == ys[i]?) w
  | [], _ => by simp [Op.eqItems]
  | i :: is, h => by
    obtain ⟨hx, hy⟩ := h i (by simp)
    have hr := run_eqItems_ints d he xs ys is (fun j hj => h j (by simp [hj]))
    have px := run_part_int w he (xs.map (Value.int k)).toArray i (.int k xs[i]) (by simp [hx])
    have py := run_part_int w he (ys.map (Value.int k)).toArray i (.int k ys[i]) (by simp [hy])
    have pe := run_equalIn_int w d e k k xs[i] ys[i] he
    simp only [Op.eqItems, Nat.mul_one, Sem.run_bind, px, py, pe, Result.andThen_ok, List.all_cons]
    rw [List.getElem?_eq_getElem hx, List.getElem?_eq_getElem hy]
    cases hb : (xs[i] == ys[i])
    · simp_all
    · simp_all

theorem run_equalIn_ints (d : Nat) {t e : TypeId} {n : Nat} {i : TypeInfo} {k : IntKind} (hu : P.underlying t = some (.array n e)) (hi : P.info? e = some i) (he : P.underlying e = some (.int k)) (hc : P.cellsOf e = 1)
    (xs ys : List Int) (hx : xs.length = n) (hy : ys.length = n) :
    (Op.equalIn (d + 2) t (.agg (xs.map (Value.int k)).toArray) (.agg (ys.map (Value.int k)).toArray)).run P w = .ok (decide (xs = ys)) w := by
  rw [show d + 2 = (d + 1) + 1 from rfl, run_equalIn_array w (d + 1) _ _ hu hi, hc, run_eqItems_ints w d he xs ys _ (fun i hi => by have := List.mem_range.1 hi; omega)]
  congr 1
  rw [Bool.eq_iff_iff, List.all_eq_true, decide_eq_true_iff]
  constructor
  · intro h
    refine List.ext_getElem? fun i => ?_
    by_cases hin : i < n
    · exact eq_of_beq (h i (List.mem_range.2 hin))
    · rw [List.getElem?_eq_none (by omega), List.getElem?_eq_none (by omega)]
  · rintro rfl i _
    simp

/-- Two rows of naturals. -/
theorem run_eql_nats {t e : TypeId} {n : Nat} {i : TypeInfo} {k : IntKind} (hu : P.underlying t = some (.array n e)) (hi : P.info? e = some i) (he : P.underlying e = some (.int k)) (hc : P.cellsOf e = 1)
    (xs ys : List Nat) (hx : xs.length = n) (hy : ys.length = n) :
    (binOp .eql t (.agg (xs.map fun x => Value.int k ((x : Nat) : Int)).toArray) (.agg (ys.map fun x => Value.int k ((x : Nat) : Int)).toArray)).run P w = .ok (.bool (decide (xs = ys))) w := by
  have h := run_equalIn_ints w 9998 hu hi he hc (xs.map fun x : Nat => (x : Int)) (ys.map fun x : Nat => (x : Int)) (by simpa using hx) (by simpa using hy)
  rw [List.map_map, List.map_map] at h
  rw [run_eql_struct]
  have e1 : (Op.equalIn 10000 t (.agg (xs.map fun x => Value.int k ((x : Nat) : Int)).toArray) (.agg (ys.map fun x => Value.int k ((x : Nat) : Int)).toArray)).run P w = .ok (decide (xs.map (fun x : Nat => (x : Int)) = ys.map (fun x : Nat => (x : Int)))) w := h
  rw [e1]
  simp only [Result.andThen_ok]
  congr 2
  rw [Bool.eq_iff_iff, decide_eq_true_iff, decide_eq_true_iff]
  constructor
  · intro h
    exact (List.map_inj_right (fun a b hab => by have : (a : Int) = b := hab; omega)).1 h
  · rintro rfl; rfl
theorem run_neq_nats {t e : TypeId} {n : Nat} {i : TypeInfo} {k : IntKind} (hu : P.underlying t = some (.array n e)) (hi : P.info? e = some i) (he : P.underlying e = some (.int k)) (hc : P.cellsOf e = 1)
    (xs ys : List Nat) (hx : xs.length = n) (hy : ys.length = n) :
    (binOp .neq t (.agg (xs.map fun x => Value.int k ((x : Nat) : Int)).toArray) (.agg (ys.map fun x => Value.int k ((x : Nat) : Int)).toArray)).run P w = .ok (.bool (!decide (xs = ys))) w := by
  have h := run_eql_nats w hu hi he hc xs ys hx hy
  rw [run_eql_struct] at h
  rw [run_neq_struct]
  cases hr : (Op.equalIn 10000 t (.agg (xs.map fun x => Value.int k ((x : Nat) : Int)).toArray) (.agg (ys.map fun x => Value.int k ((x : Nat) : Int)).toArray)).run P w with
  | ok b w' =>
    rw [hr] at h
    simp only [Result.andThen_ok] at h ⊢
    injection h with h1 h2
    injection h1 with h1
    rw [h1, h2]
  | halt x w' => rw [hr] at h; simp [Result.andThen] at h
/-- A comparison, by its two runs. -/
theorem wpList_binop {ops : Array Oper} {rest : List Oper} {o : Oper} {a : Act} {Q : Exit → Act → World → Prop} (op : BinOp) (T T2 : TypeId) (x y : Operand) (ho : o.op = .binOp op T x y T2) (hw : Region.wanted o (yielded ops a.tmps) = true)
    (u v r : Value) (hx : a.eval x = u) (hy : a.eval y = v) (hg : (eqGuard op T x y u v).run P w = .ok () w) (hb : (binOp op T u v).run P w = .ok r w) (h : wpList P ops Q rest (a.put o.dst r) w) : wpList P ops Q (o :: rest) a w := by
  refine BigFrame.wpList_want hw fun K hK => ?_
  unfold Oper.wp execOp
  simp only [ho, Sem.run_bind, Sem.run_pure, Result.andThen_ok, hx, hy, hg, hb]
  exact hK _ _ h
theorem Tabs_map (K : IntKind) (f : Nat → Nat) (n : Nat) : Tabs K f n = ((List.range n).map f).map fun x => Value.int K ((x : Nat) : Int) := by
  simp [Tabs]
end
end

section
open Go.RowKit

theorem run_index_int {P : Program} (w : World) {t e : TypeId} {n : Nat} {i : TypeInfo} {k : IntKind} (hu : P.underlying t = some (.array n e)) (hi : P.info? e = some i) (hs : i.size = 1) (he : P.underlying e = some (.int k))
    (cs : Array Value) (j : Nat) (hj : j < n) (v : Value) (h : cs[j]? = some v) : (Instr.index t (.agg cs) (.int .i64 (j : Int))).run P w = .ok v w := by
  have hp := run_part_int w he cs j v h
  have hj' : (j : Int) < (n : Int) := by omega
  simp [Instr.index, run_underlying hu, asIntOf, hj, sizeOf, typeInfo, hi, hs, hp]
end

section
open Go.RowKit

section
variable {P : Program} {S : World → Prop} {o : Oper} {a : Act}

/-- An operation that runs to a value in every world, and leaves it. -/
theorem Gives.run {v : Value} (h : ∀ w, S w → (execOp a.eval o).run P w = .ok (.value v) w) : Gives P S o v a := by
  intro w hS K hK
  unfold Oper.wp
  rw [h w hS]
  exact hK w (Below.refl _ _)
theorem Gives.move {x : Operand} {v : Value} (ho : o.op = .move x) (hx : a.eval x = v) : Gives P S o v a :=
  Gives.run fun w _ => by unfold execOp; simp only [ho, hx, Sem.run_pure]
theorem Gives.assign {x : Operand} {v : Value} (ho : o.op = .assign x) (hx : a.eval x = v) : Gives P S o v a :=
  Gives.run fun w _ => by unfold execOp; simp only [ho, hx, Sem.run_pure]
theorem Gives.load_row (ty : TypeId) (x : Operand) (ho : o.op = .load ty x) (g : Nat) (hx : a.eval x = .pointer (some ⟨g, 0, none⟩)) (T : TypeId) (l : List Value) (hr : ∀ w, S w → Row w g T l) {d : TypeDesc}
    (hu : P.underlying ty = some d) (hd : (match d with | .struct _ | .array _ _ => true | _ => false) = true) (hi : (P.info? ty).map (·.size) = some l.toArray.size) : Gives P S o (.agg l.toArray) a :=
  fun w hS _ hK => wp_load_row ty x ho g hx T _ (0, 0) _ (hr w hS) hu hd hi (hK w (Below.refl _ _))
theorem Gives.load_any (ty : TypeId) (x : Operand) (ho : o.op = .load ty x) (g : Nat) (hx : a.eval x = .pointer (some ⟨g, 0, none⟩)) (l : List Value) (hr : ∀ w, S w → ∃ T, w.heap[g]? = some (.cells l.toArray T (0, 0))) {d : TypeDesc}
    (hu : P.underlying ty = some d) (hd : (match d with | .struct _ | .array _ _ => true | _ => false) = true) (hi : (P.info? ty).map (·.size) = some l.toArray.size) : Gives P S o (.agg l.toArray) a :=
  fun w hS _ hK => by
    obtain ⟨T, h⟩ := hr w hS
    exact wp_load_row ty x ho g hx T _ (0, 0) _ h hu hd hi (hK w (Below.refl _ _))
/-- A call of a Go function with a body. -/
theorem Gives.call {f : FuncId} {fn : Func} {xs : List Operand} {ts : Array TypeId} {args : List Value} {v : Value} (ho : o.op = .call { callee := .value (.func f), args := xs.toArray, argTypes := ts })
    (hf : P.funcs[f]? = some fn) (hn : (fn.name == "runtime.NumGoroutine") = false) (hb : fn.body.isNone = false) (hargs : xs.map a.eval = args)
    (hc : ∀ w, S w → Calls P f args.toArray w fun e w' => e = .returned v ∧ Below w.heap.size w w') : Gives P S o v a := by
  intro w hS K hK
  have hrun : (execOp a.eval o).run P w = .ok (.enter f args.toArray) w := by
    have hn' : ¬ fn.name = "runtime.NumGoroutine" := by simpa using hn
    have hb' : ¬ fn.body = none := fun e => by rw [e] at hb; cases hb
    unfold execOp
    simp [ho, resolve, Act.eval, Deferred.ofValue, invoke, callFunc, hf, hn', hb', ← hargs]
  unfold Oper.wp
  rw [hrun]
  refine Calls.mono (hc w hS) fun e w' he => ?_
  obtain ⟨rfl, hbe⟩ := he
  exact hK w' hbe
theorem Gives.build1 (T : TypeId) (x : Operand) (ho : o.op = .build T #[(0, x)]) (u v : Value) (hx : a.eval x = u) (hrun : ∀ w, (Instr.build T #[(0, u)]).run P w = .ok v w) : Gives P S o v a :=
  Gives.run fun w _ => exec_build1 T x ho u v hx (hrun w)
theorem Gives.build0 (T : TypeId) (ho : o.op = .build T #[]) (v : Value) (hrun : ∀ w, (Instr.build T #[]).run P w = .ok v w) : Gives P S o v a :=
  Gives.run fun w _ => by unfold execOp; simp only [ho, Sem.run_bind, Sem.run_pure, List.map_toArray, List.map_nil, hrun, Result.andThen_ok]
theorem Gives.binop (op : BinOp) (T T2 : TypeId) (x y : Operand) (ho : o.op = .binOp op T x y T2) (u v r : Value) (hx : a.eval x = u) (hy : a.eval y = v)
    (hg : ∀ w, (eqGuard op T x y u v).run P w = .ok () w) (hb : ∀ w, (binOp op T u v).run P w = .ok r w) : Gives P S o r a :=
  Gives.run fun w _ => by
    unfold execOp
    simp only [ho, Sem.run_bind, Sem.run_pure, Result.andThen_ok, hx, hy, hg, hb]
theorem Gives.index (T : TypeId) (x y : Operand) (ho : o.op = .index T x y) (u v r : Value) (hx : a.eval x = u) (hy : a.eval y = v) (hi : ∀ w, (Instr.index T u v).run P w = .ok r w) : Gives P S o r a :=
  Gives.run fun w _ => by
    unfold execOp
    simp only [ho, Sem.run_bind, Sem.run_pure, Result.andThen_ok, hx, hy, hi]
/-- The same in the place of what the walk does. -/
theorem wp_call {Q : Exit → Act → World → Prop} {K : Act → World → Prop} {f : FuncId} {fn : Func} {xs : List Operand} {ts : Array TypeId} {args : List Value} {v : Value} {w : World} (ho : o.op = .call { callee := .value (.func f), args := xs.toArray, argTypes := ts })
    (hf : P.funcs[f]? = some fn) (hn : (fn.name == "runtime.NumGoroutine") = false) (hb : fn.body.isNone = false) (hargs : xs.map a.eval = args)
    (hc : Calls P f args.toArray w fun e w' => e = .returned v ∧ Below w.heap.size w w') (hK : ∀ w', Below w.heap.size w w' → K (a.put o.dst v) w') : o.wp P a w K Q := by
  have hrun : (execOp a.eval o).run P w = .ok (.enter f args.toArray) w := by
    have hn' : ¬ fn.name = "runtime.NumGoroutine" := by simpa using hn
    have hb' : ¬ fn.body = none := fun e => by rw [e] at hb; cases hb
    unfold execOp
    simp [ho, resolve, Act.eval, Deferred.ofValue, invoke, callFunc, hf, hn', hb', ← hargs]
  unfold Oper.wp
  rw [hrun]
  refine Calls.mono hc fun e w' he => ?_
  obtain ⟨rfl, hbe⟩ := he
  exact hK w' hbe
theorem wpList_build0 {ops : Array Oper} {rest : List Oper} {w : World} {Q : Exit → Act → World → Prop} (hgd : o.guard = none) (T : TypeId) (ho : o.op = .build T #[]) (v : Value) (hrun : (Instr.build T #[]).run P w = .ok v w)
    (h : wpList P ops Q rest (a.put o.dst v) w) : wpList P ops Q (o :: rest) a w := by
  refine wpList_plain hgd fun _ hK => ?_
  unfold Oper.wp execOp
  simp only [ho, Sem.run_bind, Sem.run_pure, List.map_toArray, List.map_nil, hrun, Result.andThen_ok]
  exact hK _ _ h

theorem wpList_index {ops : Array Oper} {rest : List Oper} {w : World} {Q : Exit → Act → World → Prop} (hgd : o.guard = none) (T : TypeId) (x y : Operand) (ho : o.op = .index T x y) (u v r : Value) (hx : a.eval x = u) (hy : a.eval y = v)
    (hi : (Instr.index T u v).run P w = .ok r w) (h : wpList P ops Q rest (a.put o.dst r) w) : wpList P ops Q (o :: rest) a w := by
  refine wpList_plain hgd fun _ hK => ?_
  unfold Oper.wp execOp
  simp only [ho, Sem.run_bind, Sem.run_pure, Result.andThen_ok, hx, hy, hi]
  exact hK _ _ h

/-- One operation, its temporary said. -/
theorem Dets.step {ops : Array Oper} {i : Nat} {v : Value} {vs : List (Nat × Value)} {b : Act} (d : Option Tmp) (ho : ops[i]? = some o) (hd : o.dst = d) (hw : Region.wanted o (yielded ops a.tmps) = true) (hg : Gives P S o v a)
    (hr : Dets P ops S vs (a.put d v) b) : Dets P ops S ((i, v) :: vs) a b := .cons ho hw hg (by rw [hd]; exact hr)
theorem Dets.s {ops : Array Oper} {i : Nat} {v : Value} {vs : List (Nat × Value)} {a' b : Act} (d : Tmp) (ho : ops[i]? = some o) (hg : Gives P S o v a)
    (hr : Dets P ops S vs a' b) (ha : a.put (some d) v = a' := by simp only [Act.put, List.setIfInBounds_toArray, List.set_cons_zero, List.set_cons_succ]; rfl) (hd : o.dst = some d := by rfl)
    (hw : Region.wanted o (yielded ops a.tmps) = true := by kernel_rfl) : Dets P ops S ((i, v) :: vs) a b := .step (some d) ho hd hw hg (ha ▸ hr)
theorem Gives.c {f : FuncId} {fn : Func} {xs : List Operand} {ts : Array TypeId} {args : List Value} {v : Value} (ho : o.op = .call { callee := .value (.func f), args := xs.toArray, argTypes := ts })
    (hf : P.funcs[f]? = some fn) (hc : ∀ w, S w → Calls P f args.toArray w fun e w' => e = .returned v ∧ Below w.heap.size w w') (hn : (fn.name == "runtime.NumGoroutine") = false := by kernel_rfl) (hb : fn.body.isNone = false := by kernel_rfl) (hargs : xs.map a.eval = args := by rfl) : Gives P S o v a := .call ho hf hn hb hargs hc
theorem Gives.l (ty : TypeId) (x : Operand) (g : Nat) {l : List Value} (hr : ∀ w, S w → Row w g ty l) {d : TypeDesc} (hu : P.underlying ty = some d) (hi : (P.info? ty).map (·.size) = some l.toArray.size)
    (ho : o.op = .load ty x := by rfl) (hx : a.eval x = .pointer (some ⟨g, 0, none⟩) := by rfl) (hd : (match d with | .struct _ | .array _ _ => true | _ => false) = true := by rfl) : Gives P S o (.agg l.toArray) a := .load_row ty x ho g hx ty l hr hu hd hi
theorem Dets.stepSkip {ops : Array Oper} {i : Nat} {vs : List (Nat × Value)} {b : Act} (d : Option Tmp) (ho : ops[i]? = some o) (hd : o.dst = d) (hw : Region.wanted o (yielded ops a.tmps) = false)
    (hr : Dets P ops S vs (a.put d undef) b) : Dets P ops S ((i, undef) :: vs) a b := .skip ho hw (by rw [hd]; exact hr)

theorem Gives.indexAt (T : TypeId) (x y : Operand) (ho : o.op = .indexAddr T x y) (u v r : Value) (hx : a.eval x = u) (hy : a.eval y = v) (hi : ∀ w, (Instr.indexAt T u v).run P w = .ok r w) : Gives P S o r a :=
  Gives.run fun w _ => by
    unfold execOp
    simp only [ho, Sem.run_bind, Sem.run_pure, Result.andThen_ok, hx, hy, hi]
theorem Gives.fieldAt (T : TypeId) (x : Operand) (n : Nat) (ho : o.op = .fieldAddr T x n) (u r : Value) (hx : a.eval x = u) (hi : ∀ w, (Instr.fieldAt T u n).run P w = .ok r w) : Gives P S o r a :=
  Gives.run fun w _ => by
    unfold execOp
    simp only [ho, Sem.run_bind, Sem.run_pure, Result.andThen_ok, hx, hi]
theorem Gives.load (T : TypeId) (x : Operand) (ho : o.op = .load T x) (u r : Value) (hx : a.eval x = u) (hi : ∀ w, S w → (Instr.loadAt T u).run P w = .ok r w) : Gives P S o r a :=
  Gives.run fun w hS => by
    unfold execOp
    simp only [ho, Sem.run_bind, Sem.run_pure, Result.andThen_ok, hx, hi w hS]
theorem Gives.extract (x : Operand) (n : Nat) (ho : o.op = .extract x n) (u r : Value) (hx : a.eval x = u) (hi : ∀ w, (Instr.extract u n).run P w = .ok r w) : Gives P S o r a :=
  Gives.run fun w _ => by
    unfold execOp
    simp only [ho, Sem.run_bind, Sem.run_pure, Result.andThen_ok, hx, hi]
theorem Gives.unop (op : UnOp) (T : TypeId) (x : Operand) (ho : o.op = .unOp op T x) (u r : Value) (hx : a.eval x = u) (hi : ∀ w, (Op.unary op u).run P w = .ok r w) : Gives P S o r a :=
  Gives.run fun w _ => by
    unfold execOp
    simp only [ho, Sem.run_bind, Sem.run_pure, Result.andThen_ok, hx, hi]

/-- Two variables are new, and two operations, at the end, wait for all others. -/
theorem wp_flat_two {ops : Array Oper} {Q : Exit → Act → World → Prop} {id : Nat} {B : Nat} {vs : List (Nat × Value)} {a0 aD : Act} {w0 : World} {k1 k2 s1 s2 : Nat} {o1 o2 : Oper} {T1 T2 : TypeId} {z1 z2 : List Value} (hm : P.follows .mixedOrders = true) (hS : S w0.drew)
    (hSB : ∀ w w', S w → Below w.heap.size w w' → S w') (hB : ∀ w, S w → B ≤ w.heap.size) (hD : Dets P ops S vs a0 aD) (hA1 : AllocOp P ops ⟨k1, T1, z1⟩) (hA2 : AllocOp P ops ⟨k2, T2, z2⟩)
    (hk : (detsOk ops [k1, k2] (vs.map (·.1)) && allocsOk ops [k1, k2] && lateOk ops (vs.map (·.1) ++ [k1, k2]) [s1, s2] && dstsIn ops a0.tmps.size && Region.noSelect ops && (cnt ops (lateL ops [s1, s2]) == 2) && (Region.ready .any ops (lateL ops [s1, s2]) == [s1, s2])
      && (Region.ready .any ops ((lateL ops [s1, s2]).setIfInBounds s1 true) == [s2]) && (Region.ready .any ops ((lateL ops [s1, s2]).setIfInBounds s2 true) == [s1])
      && (Region.ready .any ops (((lateL ops [s1, s2]).setIfInBounds s1 true).setIfInBounds s2 true) == []) && (Region.ready .any ops (((lateL ops [s1, s2]).setIfInBounds s2 true).setIfInBounds s1 true) == []) && decide (s1 ≠ s2) && decide (k1 ≠ k2)) = true)
    (h1 : ops[s1]? = some o1) (h2 : ops[s2]? = some o2) (g1 : o1.guard = none) (g2 : o2.guard = none)
    (hend : ∀ (p q : Nat) w, S w → B ≤ p → B ≤ q → p ≠ q → Row w p T1 z1 → Row w q T2 z2 →
      o1.wp P ((aD.put (dstOf ops k1) (.pointer (some ⟨p, 0, none⟩))).put (dstOf ops k2) (.pointer (some ⟨q, 0, none⟩))) w (fun a1 w1 => o2.wp P a1 w1 (fun a2 w2 => Q .normal a2 w2) Q) Q ∧
      o2.wp P ((aD.put (dstOf ops k1) (.pointer (some ⟨p, 0, none⟩))).put (dstOf ops k2) (.pointer (some ⟨q, 0, none⟩))) w (fun a1 w1 => o1.wp P a1 w1 (fun a2 w2 => Q .normal a2 w2) Q) Q) : (Code.region id ops true).wp P Q a0 w0 := by
  simp only [Bool.and_eq_true, beq_iff_eq, decide_eq_true_eq] at hk
  obtain ⟨⟨⟨⟨⟨⟨⟨⟨⟨⟨⟨⟨c1, c2⟩, c3⟩, c4⟩, c5⟩, c6⟩, c7⟩, c8⟩, c9⟩, c10⟩, c11⟩, c12⟩, c13⟩ := hk
  have e1 : s1 < ops.size := (Array.getElem?_eq_some_iff.1 h1).1
  have e2 : s2 < ops.size := (Array.getElem?_eq_some_iff.1 h2).1
  have hone : ∀ (s : Nat) (o : Oper) (L : Array Bool) (a : Act) (w : World) (K : Act → World → Prop), ops[s]? = some o → o.guard = none → o.wp P a w K Q → wpOp P ops Q s K a w := fun s o L a w K ho hg h => by
    unfold wpOp
    simp only [ho]
    rw [if_pos (by simp [Region.wanted, hg])]
    exact .inl h
  refine wp_flat (B := B) (made := [⟨k1, T1, z1⟩, ⟨k2, T2, z2⟩]) (late := [s1, s2]) hm hS hD (fun m h => ?_) c1 c2 c3 c4 c5 c6 (by simp [e1, e2]) hSB hB fun gs w hS' hrows hap => ?_
  · rcases List.mem_cons.1 h with rfl | h
    · exact hA1
    · rw [List.mem_singleton.1 h]; exact hA2
  · have r1 := hrows ⟨k1, T1, z1⟩ (by simp)
    have r2 := hrows ⟨k2, T2, z2⟩ (by simp)
    have hne := hap ⟨k1, T1, z1⟩ (by simp) ⟨k2, T2, z2⟩ (by simp) c13
    obtain ⟨ha, hb⟩ := hend _ _ w hS' r1.1 r2.1 hne r1.2 r2.2
    refine ⟨fun e => (by rw [c7] at e; cases e), fun i hi => ?_⟩
    rw [c7] at hi
    rcases List.mem_cons.1 hi with rfl | hi
    · refine hone i o1 #[] _ _ _ h1 g1 (Oper.wp_mono (fun a1 w1 hh => ?_) ha)
      refine ⟨fun e => (by rw [c8] at e; cases e), fun j hj => ?_⟩
      rw [c8] at hj
      obtain rfl := List.mem_singleton.1 hj
      exact hone j o2 #[] _ _ _ h2 g2 (Oper.wp_mono (fun a2 w2 h' => ⟨c10, h'⟩) hh)
    · obtain rfl := List.mem_singleton.1 hi
      refine hone i o2 #[] _ _ _ h2 g2 (Oper.wp_mono (fun a1 w1 hh => ?_) hb)
      refine ⟨fun e => (by rw [c9] at e; cases e), fun j hj => ?_⟩
      rw [c9] at hj
      obtain rfl := List.mem_singleton.1 hj
      exact hone j o1 #[] _ _ _ h1 g1 (Oper.wp_mono (fun a2 w2 h' => ⟨c11, h'⟩) hh)

theorem AllocOp.of {ops : Array Oper} {k : Nat} {T : TypeId} {z : List Value} (ho : ops[k]? = some o) (hg : o.guard = none) (hop : o.op = .alloc T)
    (hrun : ∀ w : World, (Instr.alloc T true (.tuple #[])).run P w = .ok (.pointer (some ⟨w.heap.size, 0, none⟩)) (w.alloc (.cells z.toArray T))) : AllocOp P ops ⟨k, T, z⟩ :=
  ⟨o, ho, hg, fun ρ w => by
    unfold execOp
    simp only [hop, Sem.run_bind, Sem.run_pure, hrun, Result.andThen_ok]⟩
/-- One variable is new; what it is made for is stored into it. -/
theorem wp_flat_new_store {ops : Array Oper} {Q : Exit → Act → World → Prop} {id : Nat} {B : Nat} {vs : List (Nat × Value)} {a0 aD : Act} {w0 : World} {k s : Nat} {os : Oper} {T : TypeId} {z c : List Value} {x y : Operand} (hm : P.follows .mixedOrders = true) (hS : S w0.drew)
    (hSB : ∀ w w', S w → Below w.heap.size w w' → S w') (hSR : ∀ w g cs, S w → B ≤ g → S (w.setRow g cs)) (hB : ∀ w, S w → B ≤ w.heap.size) (hD : Dets P ops S vs a0 aD) (hA : AllocOp P ops ⟨k, T, z⟩)
    (hk : (detsOk ops [k] (vs.map (·.1)) && lateOk ops (vs.map (·.1) ++ [k]) [s] && dstsIn ops a0.tmps.size && Region.noSelect ops && (cnt ops (lateL ops [s]) == 1) && (Region.ready .any ops (lateL ops [s]) == [s])) = true)
    (hos : ops[s]? = some os) (hgd : os.guard = none) (d : Option Tmp) (hdk : dstOf ops k = d) (hst : os.op = .store T x y) (hdn : os.dst = none)
    (hx : ∀ g : Nat, (aD.put d (.pointer (some ⟨g, 0, none⟩))).eval x = .pointer (some ⟨g, 0, none⟩)) (hy : ∀ g : Nat, (aD.put d (.pointer (some ⟨g, 0, none⟩))).eval y = .agg c.toArray)
    (hi : (P.info? T).map (·.size) = some c.toArray.size) (hsz : z.toArray.size = c.toArray.size) (h1 : c.toArray.all (·.oneCell') = true)
    (hend : ∀ (g : Nat) w, S w → B ≤ g → Row w g T c → Q .normal (aD.put d (.pointer (some ⟨g, 0, none⟩))) w) : (Code.region id ops true).wp P Q a0 w0 := by
  refine wp_flat_new hm hS hSB hB hD hA hk hos hgd fun g w hS' hg hr => ?_
  rw [hdk]
  refine wp_store_row T x y hst g c.toArray (hx g) (hy g) T _ hr hi hsz h1 ?_
  rw [hdn]
  exact hend g _ (hSR _ _ _ hS' hg) hg (setRow_heap w g _ _ _ _ hr)
/-- Two variables are new; what they are made for is stored into them. -/
theorem wp_flat_two_store {ops : Array Oper} {Q : Exit → Act → World → Prop} {id : Nat} {B : Nat} {vs : List (Nat × Value)} {a0 aD : Act} {w0 : World} {k1 k2 s1 s2 : Nat} {o1 o2 : Oper} {T1 T2 : TypeId} {z1 z2 c1 c2 : List Value} {x1 y1 x2 y2 : Operand} (hm : P.follows .mixedOrders = true) (hS : S w0.drew)
    (hSB : ∀ w w', S w → Below w.heap.size w w' → S w') (hSR : ∀ w g cs, S w → B ≤ g → S (w.setRow g cs)) (hB : ∀ w, S w → B ≤ w.heap.size) (hD : Dets P ops S vs a0 aD) (hA1 : AllocOp P ops ⟨k1, T1, z1⟩) (hA2 : AllocOp P ops ⟨k2, T2, z2⟩)
    (hk : (detsOk ops [k1, k2] (vs.map (·.1)) && allocsOk ops [k1, k2] && lateOk ops (vs.map (·.1) ++ [k1, k2]) [s1, s2] && dstsIn ops a0.tmps.size && Region.noSelect ops && (cnt ops (lateL ops [s1, s2]) == 2) && (Region.ready .any ops (lateL ops [s1, s2]) == [s1, s2])
      && (Region.ready .any ops ((lateL ops [s1, s2]).setIfInBounds s1 true) == [s2]) && (Region.ready .any ops ((lateL ops [s1, s2]).setIfInBounds s2 true) == [s1])
      && (Region.ready .any ops (((lateL ops [s1, s2]).setIfInBounds s1 true).setIfInBounds s2 true) == []) && (Region.ready .any ops (((lateL ops [s1, s2]).setIfInBounds s2 true).setIfInBounds s1 true) == []) && decide (s1 ≠ s2) && decide (k1 ≠ k2)) = true)
    (h1 : ops[s1]? = some o1) (h2 : ops[s2]? = some o2) (g1 : o1.guard = none) (g2 : o2.guard = none) (d1 d2 : Option Tmp) (hd1 : dstOf ops k1 = d1) (hd2 : dstOf ops k2 = d2)
    (hst1 : o1.op = .store T1 x1 y1) (hst2 : o2.op = .store T2 x2 y2) (hn1 : o1.dst = none) (hn2 : o2.dst = none)
    (hx1 : ∀ p q : Nat, ((aD.put d1 (.pointer (some ⟨p, 0, none⟩))).put d2 (.pointer (some ⟨q, 0, none⟩))).eval x1 = .pointer (some ⟨p, 0, none⟩)) (hy1 : ∀ p q : Nat, ((aD.put d1 (.pointer (some ⟨p, 0, none⟩))).put d2 (.pointer (some ⟨q, 0, none⟩))).eval y1 = .agg c1.toArray)
    (hx2 : ∀ p q : Nat, ((aD.put d1 (.pointer (some ⟨p, 0, none⟩))).put d2 (.pointer (some ⟨q, 0, none⟩))).eval x2 = .pointer (some ⟨q, 0, none⟩)) (hy2 : ∀ p q : Nat, ((aD.put d1 (.pointer (some ⟨p, 0, none⟩))).put d2 (.pointer (some ⟨q, 0, none⟩))).eval y2 = .agg c2.toArray)
    (hi1 : (P.info? T1).map (·.size) = some c1.toArray.size) (hz1 : z1.toArray.size = c1.toArray.size) (ho1 : c1.toArray.all (·.oneCell') = true) (hi2 : (P.info? T2).map (·.size) = some c2.toArray.size) (hz2 : z2.toArray.size = c2.toArray.size) (ho2 : c2.toArray.all (·.oneCell') = true)
    (hend : ∀ (p q : Nat) w, S w → B ≤ p → B ≤ q → p ≠ q → Row w p T1 c1 → Row w q T2 c2 → Q .normal ((aD.put d1 (.pointer (some ⟨p, 0, none⟩))).put d2 (.pointer (some ⟨q, 0, none⟩))) w) : (Code.region id ops true).wp P Q a0 w0 := by
  refine wp_flat_two hm hS hSB hB hD hA1 hA2 hk h1 h2 g1 g2 fun p q w hS' hp hq hne hr1 hr2 => ?_
  rw [hd1, hd2]
  constructor
  · refine wp_store_row T1 x1 y1 hst1 p c1.toArray (hx1 p q) (hy1 p q) T1 _ hr1 hi1 hz1 ho1 ?_
    rw [hn1]
    have r2 : Row (w.setRow p c1.toArray) q T2 z2 := (setRow_other w p q c1.toArray (Ne.symm hne)).trans hr2
    refine wp_store_row T2 x2 y2 hst2 q c2.toArray (hx2 p q) (hy2 p q) T2 _ r2 hi2 hz2 ho2 ?_
    rw [hn2]
    exact hend p q _ (hSR _ _ _ (hSR _ _ _ hS' hp) hq) hp hq hne ((setRow_other _ q p c2.toArray hne).trans (setRow_heap w p _ _ _ _ hr1)) (setRow_heap _ q _ _ _ _ r2)
  · refine wp_store_row T2 x2 y2 hst2 q c2.toArray (hx2 p q) (hy2 p q) T2 _ hr2 hi2 hz2 ho2 ?_
    rw [hn2]
    have r1 : Row (w.setRow q c2.toArray) p T1 z1 := (setRow_other w q p c2.toArray hne).trans hr1
    refine wp_store_row T1 x1 y1 hst1 p c1.toArray (hx1 p q) (hy1 p q) T1 _ r1 hi1 hz1 ho1 ?_
    rw [hn1]
    exact hend p q _ (hSR _ _ _ (hSR _ _ _ hS' hq) hp) hp hq hne (setRow_heap _ p _ _ _ _ r1) ((setRow_other _ p q c1.toArray (Ne.symm hne)).trans (setRow_heap w q _ _ _ _ hr2))
/-- What is stored at the end goes into a row that stands. -/
theorem wp_flat_store {ops : Array Oper} {Q : Exit → Act → World → Prop} {id : Nat} {vs : List (Nat × Value)} {a0 aD : Act} {w0 : World} {s : Nat} {os : Oper} {T T' : TypeId} {g : Nat} {z c : List Value} {x y : Operand} (hm : P.follows .mixedOrders = true) (hS : S w0.drew)
    (hSB : ∀ w w', S w → Below w.heap.size w w' → S w') (hD : Dets P ops S vs a0 aD)
    (hk : (detsOk ops [] (vs.map (·.1)) && lateOk ops (vs.map (·.1)) [s] && dstsIn ops a0.tmps.size && Region.noSelect ops && (cnt ops (lateL ops [s]) == 1) && (Region.ready .any ops (lateL ops [s]) == [s])) = true)
    (hos : ops[s]? = some os) (hgd : os.guard = none) (hst : os.op = .store T x y) (hdn : os.dst = none) (hx : aD.eval x = .pointer (some ⟨g, 0, none⟩)) (hy : aD.eval y = .agg c.toArray)
    (hr : ∀ w, S w → Row w g T' z) (hi : (P.info? T).map (·.size) = some c.toArray.size) (hsz : z.toArray.size = c.toArray.size) (h1 : c.toArray.all (·.oneCell') = true)
    (hend : ∀ w, S w → Q .normal aD (w.setRow g c.toArray)) : (Code.region id ops true).wp P Q a0 w0 := by
  refine wp_flat_late hm hS hSB hD hk hos hgd fun w hS' => ?_
  refine wp_store_row T x y hst g c.toArray hx hy T' _ (hr w hS') hi hsz h1 ?_
  rw [hdn]
  exact hend w hS'

theorem Gives.build5 (T : TypeId) (x0 x1 x2 x3 x4 : Operand) (ho : o.op = .build T #[(0, x0), (1, x1), (2, x2), (3, x3), (4, x4)]) (u0 u1 u2 u3 u4 v : Value) (h0 : a.eval x0 = u0) (h1 : a.eval x1 = u1) (h2 : a.eval x2 = u2) (h3 : a.eval x3 = u3) (h4 : a.eval x4 = u4)
    (hrun : ∀ w, (Instr.build T #[(0, u0), (1, u1), (2, u2), (3, u3), (4, u4)]).run P w = .ok v w) : Gives P S o v a :=
  Gives.run fun w _ => by
    unfold execOp
    simp only [ho, Sem.run_bind, Sem.run_pure, List.map_toArray, List.map_cons, List.map_nil, h0, h1, h2, h3, h4, hrun, Result.andThen_ok]
/-- A world behind another one. -/
theorem S_trans {W a b : World} (h : Below W.heap.size W a) (k : Below a.heap.size a b) : Below W.heap.size W b := h.trans (k.mono h.size)
theorem S_row {W a : World} {g : Nat} (h : Below W.heap.size W a) (hg : W.heap.size ≤ g) (cs : Array Value) : Below W.heap.size W (a.setRow g cs) := below_setRow h hg cs

theorem Gives.pick (c x y : Operand) (ho : o.op = .pick c x y) (b : Bool) (v : Value) (hc : a.eval c = .bool b) (hv : (if b then a.eval x else a.eval y) = v) : Gives P S o v a :=
  Gives.run fun w _ => by
    unfold execOp
    simp only [ho, Sem.run_bind, Sem.run_pure, Result.andThen_ok, hc, asBool]
    cases b <;> simp_all

end
theorem tk {P : Program} {ops : Array Oper} {Q : Exit → Act → World → Prop} {S : World → Prop} (i d : Nat) {oi : Oper} {v : Value} {fuel : Nat} {listed : Array Bool} {a : Act} {w : World} (hi : ops[i]? = some oi) (hd : oi.dst = some d)
    (hc : (Region.noSelect ops && (Region.free .any ops listed i && (Region.ready .any ops listed).contains i)) = true)
    (hQ : ∀ c a w, Q (.panic c) (a.put oi.dst v) w → Q (.panic c) a w) (hg : Region.wanted oi (yielded ops a.tmps) = true) (hy : ∀ w, S w → (execOp a.eval oi).run P w = .ok (.value v) w) (hS : S w)
    (h : wpAnyH P .any ops Q S fuel (listed.setIfInBounds i true) (a.put (some d) v) w) : wpAnyH P .any ops Q S (fuel + 1) listed a w := by
  rw [Bool.and_eq_true, Bool.and_eq_true] at hc
  exact wpAnyH_take hi hc.1 hc.2.1 hc.2.2 hQ (Or.inl ⟨hg, hy⟩) hS (hd ▸ h)
/-- A list of operations, and the slots that they fill. -/
def Ls (_ : List (Nat × Nat)) : Prop := True
theorem Ls.tl {x : Nat × Nat} {l : List (Nat × Nat)} (_ : Ls (x :: l)) : Ls l := trivial
theorem tkl {P : Program} {ops : Array Oper} {Q : Exit → Act → World → Prop} {S : World → Prop} {i d : Nat} {l : List (Nat × Nat)} (_ : Ls ((i, d) :: l)) {oi : Oper} {v : Value} {fuel : Nat} {listed : Array Bool} {a : Act} {w : World} (hi : ops[i]? = some oi) (hd : oi.dst = some d)
    (hc : (Region.noSelect ops && (Region.free .any ops listed i && (Region.ready .any ops listed).contains i)) = true)
    (hQ : ∀ c a w, Q (.panic c) (a.put oi.dst v) w → Q (.panic c) a w) (hg : Region.wanted oi (yielded ops a.tmps) = true) (hy : ∀ w, S w → (execOp a.eval oi).run P w = .ok (.value v) w) (hS : S w)
    (h : wpAnyH P .any ops Q S fuel (listed.setIfInBounds i true) (a.put (some d) v) w) : wpAnyH P .any ops Q S (fuel + 1) listed a w :=
  tk i d hi hd hc hQ hg hy hS h
end

section
set_option maxRecDepth 100000
set_option linter.unusedSimpArgs false
set_option linter.unusedVariables false
open Go.RowKit

theorem sat_lt (s : ByteArray) (i : Nat) : sat s i < 256 := UInt8.toNat_lt _
theorem sat_run (s : ByteArray) (i : Nat) (hi : i < s.size) (w : World) : (Instr.index 9 (.string s) (.int .i64 (i : Int))).run Tryz.prog w = .ok (.int .u8 ((sat s i : Nat) : Int)) w := by
  rw [run_index_string w 9 s .i64 (i : Int) Tryz.underlying9]
  simp [sat, hi]
  rfl
def lets (s : ByteArray) (n : Nat) : Bool := (List.range n).all fun i => letB (sat s i)
theorem lets_more (s : ByteArray) (n : Nat) : lets s (n + 1) = (lets s n && letB (sat s n)) := by
  unfold lets
  rw [List.range_succ, List.all_append]
  simp
theorem lets_no {s : ByteArray} {n m : Nat} (h : letB (sat s n) = false) (hm : n < m) : lets s m = false := by
  unfold lets
  rw [← Bool.not_eq_true, List.all_eq_true]
  intro hall
  rw [hall n (List.mem_range.2 hm)] at h
  cases h
theorem name_lets (s : ByteArray) : nameB s = (decide (1 ≤ s.size) && decide (s.size ≤ 12) && lets s s.size) := rfl
theorem letB_iff (c : Nat) : letB c = true ↔ (97 ≤ c ∧ c ≤ 122) ∨ (48 ≤ c ∧ c ≤ 57) ∨ c = 95 := by
  unfold letB
  simp only [Bool.or_eq_true, Bool.and_eq_true, decide_eq_true_eq, or_assoc]

set_option maxHeartbeats 1600000 in
theorem rname_ref (s : ByteArray) (hs : s.size ≤ maxLen) (w : World) :
    Calls Tryz.prog 48 #[.string s] w fun e w' => e = .returned (.bool (nameB s)) ∧ w' = w := by
  have hsz : (s.size : Int) ≤ 9223372036854775807 := by unfold maxLen at hs; omega
  clear hs
  go_enter Tryz.func48, Tryz.ntmps48
  go_wp2_with fail
  go_loopw [3] (fun i wr => ∃ j : Nat, j ≤ s.size ∧ i = .int .i64 (j : Int) ∧ lets s j = true ∧ wr = w) (fun i _ => s.size - (intOf i).toNat)
  case atStart => exact ⟨0, Nat.zero_le _, rfl, rfl, rfl⟩
  case round =>
    obtain ⟨j, hjn, rfl, hall, rfl⟩ := hrel
    have bj0 : (0 : Int) ≤ (j : Int) := by omega
    by_cases hj : j < s.size
    · have hji : (j : Int) < (s.size : Int) := by omega
      have hlt := sat_lt s j
      have HIX := Lib.hid (sat_run s j hj wr)
      have HM := Lib.hid (lets_more s j)
      have HNO := Lib.hid (fun h => lets_no (s := s) (n := j) (m := s.size) h hj)
      have HA := Lib.hid hall
      have HNL := Lib.hid (name_lets s)
      clear hall
      generalize sat s j = c at *
      by_cases h97 : 97 ≤ c
      · have g97 : (97 : Int) ≤ (c : Int) := by omega
        by_cases h122 : c ≤ 122
        · skip
          have g122 : (c : Int) ≤ 122 := by omega
          go_wp2_with (refine wpList_index rfl 9 (.tmp 11) (.tmp 12) rfl _ _ _ rfl rfl HIX.out ?_)
          go_roundw
          case rel => exact ⟨j + 1, by omega, by go_num, by rw [HM.out, HA.out, (letB_iff _).2 (by omega)]; rfl, by first | rfl | trivial⟩
          case measure => simp [intOf] <;> omega
        · skip
          have g122 : ¬ (c : Int) ≤ 122 := by omega
          have g48 : (48 : Int) ≤ (c : Int) := by omega
          have g57 : ¬ (c : Int) ≤ 57 := by omega
          have g95 : ¬ (c : Int) = 95 := by omega
          have g95b : ((c : Int) == 95) = false := beq_eq_false_iff_ne.2 g95
          go_wp2_with (refine wpList_index rfl 9 (.tmp 11) (.tmp 12) rfl _ _ _ rfl rfl HIX.out ?_)
          go_ret
          refine ⟨?_, rfl⟩
          show Ending.returned (Value.bool false) = _
          rw [HNL.out, HNO.out ((Bool.not_eq_true _).mp (fun h => by have := (letB_iff c).1 h; omega)), Bool.and_false]
      · have g97 : ¬ (97 : Int) ≤ (c : Int) := by omega
        by_cases h48 : 48 ≤ c
        · have g48 : (48 : Int) ≤ (c : Int) := by omega
          by_cases h57 : c ≤ 57
          · skip
            have g57 : (c : Int) ≤ 57 := by omega
            go_wp2_with (refine wpList_index rfl 9 (.tmp 11) (.tmp 12) rfl _ _ _ rfl rfl HIX.out ?_)
            go_roundw
            case rel => exact ⟨j + 1, by omega, by go_num, by rw [HM.out, HA.out, (letB_iff _).2 (by omega)]; rfl, by first | rfl | trivial⟩
            case measure => simp [intOf] <;> omega
          · have g57 : ¬ (c : Int) ≤ 57 := by omega
            by_cases h95 : c = 95
            · skip
              obtain rfl : c = 95 := h95
              go_wp2_with (refine wpList_index rfl 9 (.tmp 11) (.tmp 12) rfl _ _ _ rfl rfl HIX.out ?_)
              go_roundw
              case rel => exact ⟨j + 1, by omega, by go_num, by rw [HM.out, HA.out, (letB_iff _).2 (by omega)]; rfl, by first | rfl | trivial⟩
              case measure => simp [intOf] <;> omega
            · skip
              have g95 : ¬ (c : Int) = 95 := by omega
              have g95b : ((c : Int) == 95) = false := beq_eq_false_iff_ne.2 g95
              go_wp2_with (refine wpList_index rfl 9 (.tmp 11) (.tmp 12) rfl _ _ _ rfl rfl HIX.out ?_)
              go_ret
              refine ⟨?_, rfl⟩
              show Ending.returned (Value.bool false) = _
              rw [HNL.out, HNO.out ((Bool.not_eq_true _).mp (fun h => by have := (letB_iff c).1 h; omega)), Bool.and_false]
        · skip
          have g48 : ¬ (48 : Int) ≤ (c : Int) := by omega
          have g95 : ¬ (c : Int) = 95 := by omega
          have g95b : ((c : Int) == 95) = false := beq_eq_false_iff_ne.2 g95
          go_wp2_with (refine wpList_index rfl 9 (.tmp 11) (.tmp 12) rfl _ _ _ rfl rfl HIX.out ?_)
          go_ret
          refine ⟨?_, rfl⟩
          show Ending.returned (Value.bool false) = _
          rw [HNL.out, HNO.out ((Bool.not_eq_true _).mp (fun h => by have := (letB_iff c).1 h; omega)), Bool.and_false]
    · obtain rfl : j = s.size := by omega
      have hnl := name_lets s
      rw [hall, Bool.and_true] at hnl
      have HNL := Lib.hid hnl
      clear hnl hall
      by_cases h1 : 1 ≤ s.size
      · have g1 : (1 : Int) ≤ (s.size : Int) := by omega
        by_cases h12 : s.size ≤ 12
        · have g12 : (s.size : Int) ≤ 12 := by omega
          go_wp2_with fail
          go_ret
          refine ⟨?_, rfl⟩
          show Ending.returned (Value.bool true) = _
          rw [HNL.out, decide_eq_true h1, decide_eq_true h12]
          rfl
        · have g12 : ¬ (s.size : Int) ≤ 12 := by omega
          go_wp2_with fail
          go_ret
          refine ⟨?_, rfl⟩
          show Ending.returned (Value.bool false) = _
          rw [HNL.out, decide_eq_true h1, decide_eq_false h12]
          rfl
      · have g1 : ¬ (1 : Int) ≤ (s.size : Int) := by omega
        go_wp2_with fail
        go_ret
        refine ⟨?_, rfl⟩
        show Ending.returned (Value.bool false) = _
        rw [HNL.out, decide_eq_false h1]
        rfl
end

end Go.Proofs.YtmiadkhfjkaidaaGreatDoor
