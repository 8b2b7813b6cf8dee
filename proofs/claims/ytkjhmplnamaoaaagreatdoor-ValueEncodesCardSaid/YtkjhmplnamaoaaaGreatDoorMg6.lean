/- A region that draws its order, with operations that make memory: what only reads may be taken first, as long as nothing late has come; over any program. What reading lists wants: strings in a box, a function made, rows of the call's own. Whether a schema is right: the program. Two lists of names, held against each other. Whether a value fits a schema: the program. The document's depth of schemas; how much there is. Trees that lie within certain blocks. What reading a record's parts keeps: each part that was read stands in blocks that no later step changes. Rows of a call's own, two at once; what an append and a store leave. The fields of a record read. -/
import Derived.Test.YtkjhmplnamaoaaaGreatDoorMg3
import Derived.OrdersHeld
import Derived.Deep.RegionHeld
import Derived.Maps.AppendAt
import Derived.Great.BuildSlice
import Derived.Test.YtkjhmplnamaoaaaGreatDoorMg5
import Derived.Test.YtkjhmplnamaoaaaGreatDoorMg4
import Derived.Deep.QuietTactic
namespace Go.Proofs.YtkjhmplnamaoaaaGreatDoor
section
open Go.RowKit

section
variable {P : Program} {ops : Array Oper} {Q : Exit → Act → World → Prop} {md : Region.Mode} {S : World → Prop} {T : List Nat}

/-- None of these has come. -/
def early (T : List Nat) (l : Array Bool) : Bool := T.all fun t => !l.getD t false
/-- What has come has come behind what it waits for. -/
def closedB (md : Region.Mode) (ops : Array Oper) (l : Array Bool) : Bool :=
  (List.range ops.size).all fun j => !l.getD j false || match ops[j]? with
    | some o => o.after.all fun e => !Region.binds md e || l.getD e.on false
    | none => true
/-- Number t comes behind number i. -/
def behind (md : Region.Mode) (ops : Array Oper) (i : Nat) : Nat → Nat → Bool
  | 0, _ => false
  | n + 1, t => match ops[t]? with
    | some o => o.after.any fun e => Region.binds md e && (e.on == i || behind md ops i n e.on)
    | none => false
def Closed (md : Region.Mode) (ops : Array Oper) (l : Array Bool) : Prop :=
  ∀ j o, ops[j]? = some o → l.getD j false = true → ∀ e ∈ o.after, Region.binds md e = true → l.getD e.on false = true
theorem closed_of {l : Array Bool} (h : closedB md ops l = true) : Closed md ops l := fun j o ho hl e he hb => by
  unfold closedB at h
  have h1 := List.all_eq_true.1 h j (List.mem_range.2 (Array.getElem?_eq_some_iff.1 ho).1)
  rw [hl, ho] at h1
  simp only [Bool.not_true, Bool.false_or] at h1
  have h2 := Array.all_eq_true'.1 h1 e he
  rw [hb] at h2
  simpa using h2
theorem Closed.behind_ {l : Array Bool} (h : Closed md ops l) {i : Nat} : ∀ {n t : Nat}, behind md ops i n t = true → l.getD t false = true → l.getD i false = true := by
  intro n
  induction n with
  | zero => intro t hb; cases hb
  | succ n ih =>
    intro t hb ht
    unfold behind at hb
    split at hb
    · rename_i o ho
      obtain ⟨e, he, h1⟩ := Array.any_eq_true'.1 hb
      rw [Bool.and_eq_true, Bool.or_eq_true] at h1
      have h2 := h t o ho ht e he h1.1
      rcases h1.2 with h3 | h3
      · rw [beq_iff_eq] at h3; rwa [h3] at h2
      · exact ih h3 h2
    · cases hb
theorem getF_set_ne {l : Array Bool} {i k : Nat} (h : i ≠ k) : (l.setIfInBounds i true).getD k false = l.getD k false := by
  rw [Array.getD_eq_getD_getElem?, Array.getD_eq_getD_getElem?, Array.getElem?_setIfInBounds, if_neg h]
theorem getF_mono {l : Array Bool} {i k : Nat} (h : l.getD k false = true) : (l.setIfInBounds i true).getD k false = true := by
  by_cases e : i = k
  · subst e
    rw [Array.getD_eq_getD_getElem?] at *
    rw [Array.getElem?_setIfInBounds, if_pos rfl]
    by_cases h2 : i < l.size
    · rw [if_pos h2]; rfl
    · rw [Array.getElem?_eq_none (by omega)] at h; cases h
  · rw [getF_set_ne e]; exact h
theorem Closed.set {l : Array Bool} (h : Closed md ops l) {j : Nat} (hj : j ∈ Region.ready md ops l) : Closed md ops (l.setIfInBounds j true) := fun k o ho hl e he hb => by
  obtain ⟨_, oj, hoj, hall⟩ := mem_ready.1 hj
  by_cases hk : j = k
  · subst hk
    rw [hoj] at ho; cases ho
    exact getF_mono (hall e he hb)
  · rw [getF_set_ne hk] at hl
    exact getF_mono (h k o ho hl e he hb)

/-- Whatever order is picked from here on, and S holds behind each operation as long as none of T has come. -/
def wpAnyT (P : Program) (md : Region.Mode) (ops : Array Oper) (Q : Exit → Act → World → Prop) (S : World → Prop) (T : List Nat) : Nat → Array Bool → Act → World → Prop
  | 0, listed, a, w => Region.ready md ops listed = [] ∧ Q .normal a w
  | fuel + 1, listed, a, w =>
    (Region.ready md ops listed = [] → Q .normal a w) ∧
    ∀ i ∈ Region.ready md ops listed, wpOp P ops Q i (fun a' w' => (early T (listed.setIfInBounds i true) = true → S w') ∧ wpAnyT P md ops Q S T fuel (listed.setIfInBounds i true) a' w') a w
theorem wpAny_of_T : ∀ (fuel : Nat) (listed : Array Bool) (a : Act) (w : World), wpAnyT P md ops Q S T fuel listed a w → wpAny P md ops Q fuel listed a w
  | 0, _, _, _, h => h
  | fuel + 1, _, _, _, h => ⟨h.1, fun i hi => wpOp_mono (fun a' w' h' => wpAny_of_T fuel _ a' w' h'.2) (h.2 i hi)⟩
theorem early_set {l : Array Bool} {i : Nat} (hi : T.contains i = false) : early T (l.setIfInBounds i true) = early T l := by
  unfold early
  rw [Bool.eq_iff_iff, List.all_eq_true, List.all_eq_true]
  have hne : ∀ t ∈ T, i ≠ t := fun t ht e => by
    subst e
    rw [List.contains_iff_mem.2 ht] at hi
    cases hi
  exact ⟨fun h t ht => by have := h t ht; rwa [getF_set_ne (hne t ht)] at this, fun h t ht => by rw [getF_set_ne (hne t ht)]; exact h t ht⟩
theorem early_of {l : Array Bool} (h : Closed md ops l) {i n : Nat} (hw : (T.all fun t => behind md ops i n t) = true) (hi : l.getD i false = false) : early T l = true := by
  unfold early
  rw [List.all_eq_true] at *
  intro t ht
  rw [Bool.not_eq_true', ← Bool.not_eq_true]
  intro hl
  rw [h.behind_ (hw t ht) hl] at hi
  cases hi

theorem wpAnyT_first {i n : Nat} {oi : Oper} {v : Value} (hi : ops[i]? = some oi) (hsel : ∀ (j : Nat) (o : Oper) cs b, ops[j]? = some o → o.op ≠ .select cs b)
    (hQ : ∀ c a w, Q (.panic c) (a.put oi.dst v) w → Q (.panic c) a w) (hT : T.contains i = false) (hw : (T.all fun t => behind md ops i n t) = true) :
    ∀ (fuel : Nat) (listed : Array Bool) (a : Act) (w : World),
      (∀ j oj, ops[j]? = some oj → j ≠ i → listed.getD j true = false → (∀ e ∈ oj.after, Region.binds md e = true → e.on ≠ i) → oi.apart ops oj = true) →
      i ∈ Region.ready md ops listed → Closed md ops listed → YieldsIf P ops S oi v a → S w →
      wpAnyT P md ops Q S T fuel (listed.setIfInBounds i true) (a.put oi.dst v) w → wpAnyT P md ops Q S T (fuel + 1) listed a w := by
  intro fuel
  induction fuel with
  | zero =>
    intro listed a w _ hr _ hy hS H
    refine ⟨fun h => (by rw [h] at hr; cases hr), fun j hj => ?_⟩
    by_cases hji : j = i
    · subst hji; exact hy.wpOp hi hS ⟨fun _ => hS, H⟩
    · have := ready_mono hj hji
      rw [H.1] at this
      cases this
  | succ fuel ih =>
    intro listed a w hfree hr hcl hy hS H
    refine ⟨fun h => (by rw [h] at hr; cases hr), fun j hj => ?_⟩
    by_cases hji : j = i
    · subst hji; exact hy.wpOp hi hS ⟨fun _ => hS, H⟩
    · have h1 := H.2 j (ready_mono hj hji)
      obtain ⟨hjun, oj, hoj, hall⟩ := mem_ready.1 hj
      have hiun : listed.getD i false = false := by
        have h0 := (mem_ready.1 hr).1
        rw [Array.getD_eq_getD_getElem?] at *
        cases hx : listed[i]? with
        | none => rfl
        | some b => rw [hx] at h0; exact h0
      have hnot : ∀ e ∈ oj.after, Region.binds md e = true → e.on ≠ i := fun e he hb heq => by
        have h1 := hall e he hb
        rw [heq, hiun] at h1
        cases h1
      have h2 := wpOp_putIf hoj (hfree j oj hoj hji hjun hnot) (fun cs b => hsel i oi cs b hi) (fun cs b => hsel j oj cs b hoj) hQ hy h1
      have hfree' : ∀ k ok, ops[k]? = some ok → k ≠ i → (listed.setIfInBounds j true).getD k true = false →
          (∀ e ∈ ok.after, Region.binds md e = true → e.on ≠ i) → oi.apart ops ok = true := fun k ok hk hki hun hno => by
        refine hfree k ok hk hki ?_ hno
        by_cases hjk : j = k
        · subst hjk; exact hjun
        · rw [getD_set_ne true hjk] at hun; exact hun
      have hcl' := hcl.set hj
      have hea : early T (listed.setIfInBounds j true) = true := early_of hcl' hw (by rw [getF_set_ne hji]; exact hiun)
      refine wpOp_mono (fun a' w' h3 => ?_) h2
      have hS' : S w' := h3.2.1 (by rw [Array.setIfInBounds_comm _ _ (Ne.symm hji), early_set hT]; exact hea)
      refine ⟨fun _ => hS', ih (listed.setIfInBounds j true) a' w' hfree' (ready_mono hr (Ne.symm hji)) hcl' h3.1 hS' ?_⟩
      rw [Array.setIfInBounds_comm _ _ hji]
      exact h3.2.2
/-- An operation that only reads: taken first. -/
def takeB (md : Region.Mode) (ops : Array Oper) (T : List Nat) (listed : Array Bool) (i : Nat) : Bool :=
  Region.noSelect ops && Region.free md ops listed i && (Region.ready md ops listed).contains i && closedB md ops listed && !T.contains i && (T.all fun t => behind md ops i ops.size t)
theorem takeT (i : Nat) (d : Option Tmp) {oi : Oper} {v : Value} {fuel : Nat} {listed : Array Bool} {a : Act} {w : World} (hi : ops[i]? = some oi) (hd : oi.dst = d) (hb : takeB md ops T listed i = true) (hwa : Region.wanted oi (yielded ops a.tmps) = true)
    (hQ : ∀ c a w, Q (.panic c) (a.put oi.dst v) w → Q (.panic c) a w) (hy : ∀ w, S w → (execOp a.eval oi).run P w = .ok (.value v) w) (hS : S w)
    (h : wpAnyT P md ops Q S T fuel (listed.setIfInBounds i true) (a.put d v) w) : wpAnyT P md ops Q S T (fuel + 1) listed a w := by
  unfold takeB at hb
  simp only [Bool.and_eq_true, Bool.not_eq_true'] at hb
  obtain ⟨⟨⟨⟨⟨h1, h2⟩, h3⟩, h4⟩, h5⟩, h6⟩ := hb
  subst hd
  exact wpAnyT_first hi (Region.noSelect_spec h1) hQ h5 h6 fuel listed a w (Region.free_spec hi h2) (by simpa using h3) (closed_of h4) (.inl ⟨hwa, hy⟩) hS h
theorem skipT (i : Nat) (d : Option Tmp) {oi : Oper} {fuel : Nat} {listed : Array Bool} {a : Act} {w : World} (hi : ops[i]? = some oi) (hd : oi.dst = d) (hb : takeB md ops T listed i = true) (hwa : Region.wanted oi (yielded ops a.tmps) = false)
    (hQ : ∀ c a w, Q (.panic c) (a.put oi.dst undef) w → Q (.panic c) a w) (hS : S w)
    (h : wpAnyT P md ops Q S T fuel (listed.setIfInBounds i true) (a.put d undef) w) : wpAnyT P md ops Q S T (fuel + 1) listed a w := by
  unfold takeB at hb
  simp only [Bool.and_eq_true, Bool.not_eq_true'] at hb
  obtain ⟨⟨⟨⟨⟨h1, h2⟩, h3⟩, h4⟩, h5⟩, h6⟩ := hb
  subst hd
  exact wpAnyT_first hi (Region.noSelect_spec h1) hQ h5 h6 fuel listed a w (Region.free_spec hi h2) (by simpa using h3) (closed_of h4) (.inr ⟨hwa, rfl⟩) hS h
/-- The one operation that may come up now. -/
theorem oneT (i : Nat) {o : Oper} {fuel : Nat} {listed : Array Bool} {a : Act} {w : World} (hr : (Region.ready md ops listed == [i]) = true) (ho : ops[i]? = some o) (hwa : Region.wanted o (yielded ops a.tmps) = true)
    (h : ∀ K : Act → World → Prop, Shut (∀ a' w', (early T (listed.setIfInBounds i true) = true → S w') → wpAnyT P md ops Q S T fuel (listed.setIfInBounds i true) a' w' → K a' w') → o.wp P a w K Q) : wpAnyT P md ops Q S T (fuel + 1) listed a w := by
  rw [beq_iff_eq] at hr
  refine ⟨fun h0 => (by rw [hr] at h0; cases h0), fun j hj => ?_⟩
  rw [hr] at hj
  obtain rfl : j = i := by simpa using hj
  unfold wpOp
  simp only [ho, hwa, if_true]
  exact .inl (h _ (fun a' w' hS hW => ⟨hS, hW⟩))
theorem doneT {listed : Array Bool} {a : Act} {w : World} (hr : (Region.ready md ops listed == []) = true) (h : Q .normal a w) : ∀ fuel, wpAnyT P md ops Q S T fuel listed a w
  | 0 => ⟨beq_iff_eq.1 hr, h⟩
  | _ + 1 => ⟨fun _ => h, by rw [beq_iff_eq.1 hr]; simp⟩
theorem startT (S : World → Prop) (T : List Nat) {id : Nat} {a : Act} {w : World} (hm : P.follows .mixedOrders = true)
    (h : wpAnyT P .any ops Q S T ops.size (Array.replicate ops.size false) a w.drew) : (Code.region id ops true).wp P Q a w :=
  wp_region_any hm (wpAny_of_T _ _ _ _ h)
end

/-! What only reads. -/
def Reads (P : Program) (S : World → Prop) (o : Oper) (v : Value) (a : Act) : Prop := ∀ w, S w → (execOp a.eval o).run P w = .ok (.value v) w
section
variable {P : Program} {S : World → Prop} {o : Oper} {a : Act}
theorem Reads.move {x : Operand} {v : Value} (ho : o.op = .move x) (hx : a.eval x = v) : Reads P S o v a := fun w _ => by unfold execOp; simp only [ho, hx, Sem.run_pure]
theorem Reads.fieldAt (T : TypeId) (x : Operand) (n : Nat) (ho : o.op = .fieldAddr T x n) (u r : Value) (hx : a.eval x = u) (hi : ∀ w, (Instr.fieldAt T u n).run P w = .ok r w) : Reads P S o r a := fun w _ => by
  unfold execOp
  simp only [ho, Sem.run_bind, Sem.run_pure, Result.andThen_ok, hx, hi]
theorem Reads.indexAt (T : TypeId) (x y : Operand) (ho : o.op = .indexAddr T x y) (u v r : Value) (hx : a.eval x = u) (hy : a.eval y = v) (hi : ∀ w, (Instr.indexAt T u v).run P w = .ok r w) : Reads P S o r a := fun w _ => by
  unfold execOp
  simp only [ho, Sem.run_bind, Sem.run_pure, Result.andThen_ok, hx, hy, hi]
theorem Reads.load (T : TypeId) (x : Operand) (ho : o.op = .load T x) (u r : Value) (hx : a.eval x = u) (hi : ∀ w, S w → (Instr.loadAt T u).run P w = .ok r w) : Reads P S o r a := fun w hS => by
  unfold execOp
  simp only [ho, Sem.run_bind, Sem.run_pure, Result.andThen_ok, hx, hi w hS]
theorem Reads.binop (op : BinOp) (T T2 : TypeId) (x y : Operand) (ho : o.op = .binOp op T x y T2) (u v r : Value) (hx : a.eval x = u) (hy : a.eval y = v)
    (hg : ∀ w, (eqGuard op T x y u v).run P w = .ok () w) (hb : ∀ w, (binOp op T u v).run P w = .ok r w) : Reads P S o r a := fun w _ => by
  unfold execOp
  simp only [ho, Sem.run_bind, Sem.run_pure, Result.andThen_ok, hx, hy, hg, hb]
theorem Reads.unop (op : UnOp) (T : TypeId) (x : Operand) (ho : o.op = .unOp op T x) (u r : Value) (hx : a.eval x = u) (hi : ∀ w, (Op.unary op u).run P w = .ok r w) : Reads P S o r a := fun w _ => by
  unfold execOp
  simp only [ho, Sem.run_bind, Sem.run_pure, Result.andThen_ok, hx, hi]
theorem Reads.pick (c x y : Operand) (ho : o.op = .pick c x y) (b : Bool) (v : Value) (hc : a.eval c = .bool b) (hv : (if b then a.eval x else a.eval y) = v) : Reads P S o v a := fun w _ => by
  unfold execOp
  simp only [ho, Sem.run_bind, Sem.run_pure, Result.andThen_ok, hc, asBool]
  cases b <;> simp_all
end

/-! What makes memory. -/
section
variable {P : Program} {o : Oper} {a : Act} {w : World} {K : Act → World → Prop} {Q : Exit → Act → World → Prop}
theorem wp_run {v : Value} {w' : World} (hr : (execOp a.eval o).run P w = .ok (.value v) w') (h : K (a.put o.dst v) w') : o.wp P a w K Q := by
  unfold Oper.wp
  rw [hr]
  exact h
theorem wp_unit {w' : World} (hr : (execOp a.eval o).run P w = .ok .skip w') (h : K (a.put o.dst undef) w') : o.wp P a w K Q := by
  unfold Oper.wp
  rw [hr]
  exact h
/-- A slice of one element, made. -/
theorem wp_slice1 (t e : TypeId) (x : Operand) (ho : o.op = .buildSlice t 1 #[(0, x)]) (u : Value) (hx : a.eval x = u) (cs : Array Value)
    (hr : ∀ w : World, (Instr.buildSlice t 1 #[(0, u)]).run P w = .ok (.slice (some ⟨w.heap.size, 0, none⟩) 1 1) (w.alloc (.cells cs e))) (h : K (a.put o.dst (.slice (some ⟨w.heap.size, 0, none⟩) 1 1)) (w.alloc (.cells cs e))) : o.wp P a w K Q := by
  refine wp_run ?_ h
  unfold execOp
  simp only [ho, Sem.run_bind, List.map_toArray, List.map_cons, List.map_nil, hx, hr, Result.andThen_ok, Sem.run_pure]
theorem wp_append_at (s x : Operand) (t : TypeId) (ho : o.op = .call { callee := .builtin .append, args := #[s, x], argTypes := #[t, t] })
    (base : Nat) (e : TypeId) (i : TypeInfo) (z : Value) (size bytes : Nat) (ht : P.underlying t = some (.slice e)) (hi : P.info? e = some i) (hz : i.zero = some z)
    (hsize : i.size = size) (hby : i.bytes = bytes) (hzs : z.cells.size = size) (hsz : 0 < size)
    (v : Value) (n : Nat) (xs : List Value) (hs : a.eval s = v) (hown : w.ownsRow base e size v n xs)
    (ad : Addr) (m c : Nat) (news : List Value) (hx : a.eval x = .slice (some ad) m c) (hl : news.length = m * size) (hnews : ∀ j u, news[j]? = some u → w.cell? (ad.add j) = some u) (h1 : ∀ u ∈ news, u.oneCell' = true)
    (h63 : n + m ≤ maxLen) (hbytes : (n + m) * bytes ≤ 140737488355328) (hbase : base ≤ w.heap.size)
    (h : ∀ v' w', w'.ownsRow base e size v' (n + m) (xs ++ news) → w.grownBy w' v.ownBlock → (v'.ownBlock = v.ownBlock ∨ v'.ownBlock = some w.heap.size) → K (a.put o.dst v') w') : o.wp P a w K Q := by
  obtain ⟨v', w', hr, h2, h3, h4, h5⟩ := run_append_own_at (P := P) w base t o.type e i z size bytes ht hi hz hsize hby hzs hsz v n xs hown ad m c news hl hnews h1 h63 hbytes hbase
  refine wp_run ?_ (h v' w' h2 h3 h5)
  unfold execOp
  simp only [ho, resolve, invoke, builtin, Sem.run_bind, Sem.run_pure, Result.andThen_ok, List.map_toArray, List.map_cons, List.map_nil, hs, hx, hr]
/-- A call, met by its contract. -/
theorem wp_call_any {f : FuncId} {fn : Func} {xs : List Operand} {ts : Array TypeId} {args : List Value} {R : Ending → World → Prop} (ho : o.op = .call { callee := .value (.func f), args := xs.toArray, argTypes := ts })
    (hf : P.funcs[f]? = some fn) (hn : (fn.name == "runtime.NumGoroutine") = false) (hb : fn.body.isNone = false) (hargs : xs.map a.eval = args)
    (hc : Calls P f args.toArray w R) (hK : ∀ e w', R e w' → ∃ v, e = .returned v ∧ K (a.put o.dst v) w') : o.wp P a w K Q := by
  have hrun : (execOp a.eval o).run P w = .ok (.enter f args.toArray) w := by
    have hn' : ¬ fn.name = "runtime.NumGoroutine" := by simpa using hn
    have hb' : ¬ fn.body = none := fun e => by rw [e] at hb; cases hb
    unfold execOp
    simp [ho, resolve, Act.eval, Deferred.ofValue, invoke, callFunc, hf, hn', hb', ← hargs]
  unfold Oper.wp
  rw [hrun]
  refine Calls.mono hc fun e w' hR => ?_
  obtain ⟨v, rfl, h⟩ := hK e w' hR
  exact h
/-- A call of a function that is a value. -/
theorem wpList_call_fn {ops : Array Oper} {rest : List Oper} (hgd : o.guard = none) {x : Operand} {xs : List Operand} {ts : Array TypeId} (ho : o.op = .call { callee := .value x, args := xs.toArray, argTypes := ts }) {f : FuncId} {fn : Func} {cap : Array Value}
    (hx : a.eval x = .func (.func f) #[] cap) (hf : P.funcs[f]? = some fn) (hn : (fn.name == "runtime.NumGoroutine") = false) (hb : fn.body.isNone = false) {args : List Value} (hargs : xs.map a.eval = args) {R : Ending → World → Prop}
    (hc : Calls P f (args.toArray ++ cap) w R) (hK : ∀ e w', R e w' → ∃ v, e = .returned v ∧ wpList P ops Q rest (a.put o.dst v) w') : wpList P ops Q (o :: rest) a w := by
  refine wpList_plain hgd fun K hKK => ?_
  have hrun : (execOp a.eval o).run P w = .ok (.enter f (args.toArray ++ cap)) w := by
    have hn' : ¬ fn.name = "runtime.NumGoroutine" := by simpa using hn
    have hb' : ¬ fn.body = none := fun e => by rw [e] at hb; cases hb
    unfold execOp
    simp [ho, resolve, hx, Deferred.ofValue, invoke, callFunc, hf, hn', hb', ← hargs]
  unfold Oper.wp
  rw [hrun]
  refine Calls.mono hc fun e w' hR => ?_
  obtain ⟨v, rfl, h⟩ := hK e w' hR
  exact hKK _ _ h
/-- One cell, stored. -/
theorem wp_store_cell (t : TypeId) (x y : Operand) (ho : o.op = .store t x y) (p : Addr) (hx : a.eval x = .pointer (some p)) (v : Value) (hy : a.eval y = v) (hr : (Instr.storeAt t (.pointer (some p)) v).run P w = .ok () (w.setCell p v))
    (h : K (a.put o.dst undef) (w.setCell p v)) : o.wp P a w K Q := by
  unfold Oper.wp execOp
  simp only [ho, hx, hy, Sem.run_bind, hr, Result.andThen_ok, Sem.run_pure]
  exact h
end
end

section
set_option maxRecDepth 100000
set_option linter.unusedSimpArgs false
set_option linter.unusedVariables false
open Go.RowKit

theorem late_ok_ {b : Bool} {p : Prop} (h : (b == false) = true) : b = true → p := fun e => by rw [e] at h; cases h
theorem str_info_ : (Tryz.prog.info? 9).map (fun i => (i.zero, i.size, i.bytes)) = some (some (.string ByteArray.empty), 1, 16) := by kernel_rfl
theorem mk_str_ (x : ByteArray) (w : World) : (Instr.buildSlice 22 1 #[(0, .string x)]).run Tryz.prog w = .ok (.slice (some ⟨w.heap.size, 0, none⟩) 1 1) (w.alloc (.cells #[.string x] 9)) := by
  go_simp
theorem ld_strs_ {p : Addr} {v : Value} {w : World} (hc : w.cell? p = some v) {a : Option Addr} {n c : Nat} (hv : v = .slice a n c) : (Instr.loadAt 22 (.pointer (some p))).run Tryz.prog w = .ok v w := by
  subst hv
  go_simp
theorem st_strs_ {p : Addr} {old v : Value} {w : World} (hc : w.cell? p = some old) (hf : w.frozen? p = false) {a : Option Addr} {n c : Nat} (hv : v = .slice a n c) : (Instr.storeAt 22 (.pointer (some p)) v).run Tryz.prog w = .ok () (w.setCell p v) := by
  subst hv
  go_simp
theorem own_set_ {w : World} {B : Nat} {T : TypeId} {s : Nat} {v : Value} {n : Nat} {xs : List Value} (h : w.ownsRow B T s v n xs) {p : Addr} (hp : p.block < B) (u : Value) : (w.setCell p u).ownsRow B T s v n xs := by
  refine ⟨h.1, ?_⟩
  rcases h.2 with hn | ⟨g, cap, cur, rfl, hb, hg, rest⟩
  · exact .inl hn
  · exact .inr ⟨g, cap, cur, rfl, hb, (Below.heap_setCell _ _ _ _ (by omega)).trans hg, rest⟩
theorem Reads.makeFunc {P : Program} {S : World → Prop} {o : Oper} {a : Act} (f : FuncId) (x : Operand) (ho : o.op = .makeFunc (.func f) #[] #[x]) (u : Value) (hx : a.eval x = u) (hi : ∀ w, (Instr.makeFunc (.func f) #[] #[u]).run P w = .ok (.func (.func f) #[] #[u]) w) : Reads P S o (.func (.func f) #[] #[u]) a := fun w _ => by
  unfold execOp
  simp only [ho, hx, List.map_toArray, List.map_cons, List.map_nil, Sem.run_bind, hi, Sem.run_pure, Result.andThen_ok]
theorem mk_func_ (f : FuncId) (p : Option Addr) (w : World) : (Instr.makeFunc (.func f) #[] #[.pointer p]).run Tryz.prog w = .ok (.func (.func f) #[] #[.pointer p]) w := by
  go_simp
theorem strs_more (l : List ByteArray) {j : Nat} (hj : j < l.length) : (l.take (j + 1)).map Value.string = (l.take j).map Value.string ++ [Value.string (nth l j)] := by
  rw [List.take_add_one, List.map_append]
  unfold nth
  simp [hj]
theorem readto_from {g : Nat} {A : Option Addr} {c : Nat} {F : Nat → Prop} {k : List UInt8} {p : Nat} {d : Int} {w w' : World} {o : Obj} (h : Readto (w.alloc o) w' g A c F k p d) : Readto w w' g A c F k p d :=
  ⟨h.rr, (Only.of_below (below_new w o) _).trans h.only fun _ _ h => h⟩
end

section
set_option maxRecDepth 100000
set_option linter.unusedSimpArgs false
set_option linter.unusedVariables false
open Go.RowKit

theorem ieqo (n : Nat) : ((n : Int) == 1) = decide (n = 1) := by rw [Bool.eq_iff_iff, beq_iff_eq, decide_eq_true_eq]; omega
theorem choice_head (words : List ByteArray) (len : Nat) : headS 4 words len = (choiceB words && decide (len = 0)) := by
  unfold headS choiceB
  rw [if_neg (by decide), if_pos rfl]
end

section
set_option maxRecDepth 100000
set_option linter.unusedSimpArgs false
set_option linter.unusedVariables false
open Go.RowKit

def eqN (l m : List ByteArray) (n : Nat) : Bool := (List.range n).all fun i => eqS (nth l i) (nth m i)
theorem eqN_more (l m : List ByteArray) (n : Nat) : eqN l m (n + 1) = (eqN l m n && eqS (nth l n) (nth m n)) := by
  unfold eqN
  rw [List.range_succ, List.all_append]
  simp only [List.all_cons, List.all_nil, Bool.and_true]
theorem eqN_no {l m : List ByteArray} {n k : Nat} (h : eqN l m n = false) (hm : n ≤ k) : eqN l m k = false := by
  unfold eqN at *
  rw [← Bool.not_eq_true, List.all_eq_true] at *
  exact fun h' => h fun i hi => h' i (List.mem_range.2 (by have := List.mem_range.1 hi; omega))
end

section
set_option maxRecDepth 100000
set_option linter.unusedSimpArgs false
set_option linter.unusedVariables false
open Go.RowKit

theorem Gives.load_at {P : Program} {S : World → Prop} {o : Oper} {a : Act} (ty : TypeId) (x : Operand) (ho : o.op = .load ty x) (ad : Addr) (hx : a.eval x = .pointer (some ad)) (cs : List Value) (d : TypeDesc) (hS : ∀ w, S w → ∀ j v, cs[j]? = some v → w.cell? (ad.add j) = some v)
    (hu : P.underlying ty = some d) (hd : rowD d = true) (hi : (P.info? ty).map (·.size) = some cs.length) : Gives P S o (.agg cs.toArray) a :=
  Gives.load ty x ho (.pointer (some ad)) _ hx fun w hw => by
    simp only [Instr.loadAt, Instr.sureAddr, Sem.run_bind, Sem.run_pure, Result.andThen_ok, run_loadVar_at w ad ty cs d (hS w hw) hu hd hi]
theorem un_not (b : Bool) (w : World) : (Op.unary .not (.bool b)).run Tryz.prog w = .ok (.bool (!b)) w := rfl
theorem VAt.one {w : World} {v : Vt} {cs : List Value} (h : VAt w v cs) : cs.toArray.all (·.oneCell') = true := by cases h; rw [List.all_toArray]; rfl
theorem Row.setRow {w : World} {g : Nat} {T : TypeId} {l : List Value} (h : Row w g T l) (m : List Value) : Row (w.setRow g m.toArray) g T m := setRow_heap w g _ _ _ _ h
theorem Row.setRowOther {w : World} {g k : Nat} {T : TypeId} {l : List Value} (h : Row w g T l) (hk : g ≠ k) (m : Array Value) : Row (w.setRow k m) g T l := (setRow_other w k g m hk).trans h
theorem Vt.sound_mk {k n : Int} {s : ByteArray} {names : List ByteArray} {ids : List Int} {len : Nat} {parts : Nat → Vt} (h : (Vt.mk k n s names ids len parts).sound = true) : headV k n s names ids len = true ∧ ∀ i, i < len → (parts i).sound = true := by
  rw [Vt.sound, Bool.and_eq_true, List.all_eq_true] at h
  exact ⟨h.1, fun i hi => h.2 i (List.mem_range.2 hi)⟩
theorem St.sound_mk {k : Int} {words : List ByteArray} {len : Nat} {parts : Nat → St} (h : (St.mk k words len parts).sound = true) : headS k words len = true ∧ ∀ i, i < len → (parts i).sound = true := by
  rw [St.sound, Bool.and_eq_true, List.all_eq_true] at h
  exact ⟨h.1, fun i hi => h.2 i (List.mem_range.2 hi)⟩
theorem headV_5 {n : Int} {s : ByteArray} {names : List ByteArray} {ids : List Int} {len : Nat} (h : headV 5 n s names ids len = true) : len = names.length := by
  unfold headV at h
  rw [if_neg (by decide), if_neg (by decide), if_neg (by decide), if_neg (by decide), if_pos rfl] at h
  simp only [Bool.and_eq_true, decide_eq_true_eq] at h
  exact h.1.2
theorem headS_5 {words : List ByteArray} {len : Nat} (h : headS 5 words len = true) : len = words.length := by
  unfold headS at h
  rw [if_neg (by decide), if_neg (by decide), if_pos rfl] at h
  simp only [Bool.and_eq_true, decide_eq_true_eq] at h
  exact h.1.2
theorem headS_6 {words : List ByteArray} {len : Nat} (h : headS 6 words len = true) : len = 1 := by
  unfold headS at h
  rw [if_neg (by decide), if_neg (by decide), if_neg (by decide), if_pos rfl] at h
  simp only [Bool.and_eq_true, decide_eq_true_eq] at h
  exact h.2
theorem eqL_len {l m : List ByteArray} (h : eqL l m = true) : l.length = m.length := by
  unfold eqL at h
  rw [Bool.and_eq_true, decide_eq_true_eq] at h
  exact h.1
def allN (f : Nat → Bool) (n : Nat) : Bool := (List.range n).all f
theorem allN_more (f : Nat → Bool) (n : Nat) : allN f (n + 1) = (allN f n && f n) := by
  unfold allN
  rw [List.range_succ, List.all_append]
  simp only [List.all_cons, List.all_nil, Bool.and_true]
theorem allN_no {f : Nat → Bool} {n k : Nat} (h : allN f n = false) (hm : n ≤ k) : allN f k = false := by
  unfold allN at *
  rw [← Bool.not_eq_true, List.all_eq_true] at *
  exact fun h' => h fun i hi => h' i (List.mem_range.2 (by have := List.mem_range.1 hi; omega))
end

section
set_option maxRecDepth 100000
set_option linter.unusedSimpArgs false
set_option linter.unusedVariables false
open Go.RowKit

set_option maxHeartbeats 1600000 in
theorem room_ref : ∀ (v : Vt) (cs : List Value) (n0 : Int) (d : Nat) (w : World), VAt w v cs → d ≤ 12 →
    Calls Tryz.prog 13 #[.agg cs.toArray, .int .i64 n0, .int .i64 (d : Int)] w fun e w' => (∃ r : Int, e = .returned (.int .i64 r) ∧ (0 ≤ r → v.depth ≤ d)) ∧ Below w.heap.size w w' := by
  intro v
  induction v with
  | nul => intro cs n0 d w h; cases h
  | mk k n s names ids len parts ih =>
    intro cs n0 d w h hd
    cases h with
    | mk css hk hn hs h1 h1c hss h2 h2c hi h3 h3c hp =>
    rename_i a b c la ca lb cb cc
    have hdn : (Vt.mk k n s names ids len parts).depth = most (fun i => (parts i).depth) len + 1 := by rw [Vt.depth]
    have HDN := Lib.hid hdn
    have HP := Lib.hid hp
    have H3 := Lib.hid h3
    have IH := Lib.hid ih
    have hlc : len ≤ maxLen := Nat.le_trans h3c.1 h3c.2
    have hlb : (len : Int) ≤ 9223372036854775807 := by unfold maxLen at hlc; omega
    have HB0 := Lib.hid (Row.new w [.int .i64 k, .int .i64 n, .string s, .slice a la ca, .slice b lb cb, .slice c len cc] 26)
    have HW := Lib.hid (Below.alloc1 w (.cells #[.int .i64 k, .int .i64 n, .string s, .slice a la ca, .slice b lb cb, .slice c len cc] 26))
    clear hp h3 ih h1 h2 hdn hk hn hs h1c hss h2c hi h3c hlc
    cases d with
    | zero =>
      go_enter Tryz.func13, Tryz.ntmps13
      go_wp2_with fail
      go_ret
      exact ⟨⟨-1, rfl, fun h => absurd h (by decide)⟩, HW.out⟩
    | succ d =>
      have gd : (((d + 1 : Nat) : Int) == 0) = false := beq_eq_false_iff_ne.2 (by omega)
      have gd1 : ((d : Int) + 1 == 0) = false := beq_eq_false_iff_ne.2 (by omega)
      have gd2 : ¬ (d : Int) + 1 = 0 := by omega
      have gd3 : (0 : Int) ≤ (d : Int) := by omega
      have gd4 : (d : Int) ≤ 11 := by omega
      by_cases h4 : s.size > 400
      · have g4 : (s.size : Int) > 400 := by omega
        have g4b : (400 : Int) < (s.size : Int) := by omega
        have g4c : ¬ (s.size : Int) ≤ 400 := by omega
        go_enter Tryz.func13, Tryz.ntmps13
        go_wp2_with fail
        go_ret
        exact ⟨⟨-1, rfl, fun h => absurd h (by decide)⟩, HW.out⟩
      · have g4 : ¬ (s.size : Int) > 400 := by omega
        have g4b : ¬ (400 : Int) < (s.size : Int) := by omega
        have g4c : (s.size : Int) ≤ 400 := by omega
        go_enter Tryz.func13, Tryz.ntmps13
        go_wp2_with fail
        go_loopw [1, 7] (fun m i wr => ∃ (j : Nat) (x : Int), j ≤ len ∧ i = .int .i64 (j : Int) ∧ m = .int .i64 x ∧ (0 ≤ x → ∀ i, i < j → (parts i).depth ≤ d) ∧ Row wr w.heap.size 26 [.int .i64 k, .int .i64 n, .string s, .slice a la ca, .slice b lb cb, .slice c len cc] ∧ Below w.heap.size w wr) (fun _ i _ => len - (intOf i).toNat)
        case atStart => exact ⟨0, _, Nat.zero_le _, rfl, rfl, fun _ i hi => absurd hi (Nat.not_lt_zero i), HB0.out, HW.out⟩
        case round =>
          obtain ⟨j, x, hjn, rfl, rfl, hall, hb0, hw⟩ := hrel
          have bj0 : (0 : Int) ≤ (j : Int) := by omega
          have hc5 := hb0.cell (k := 5) (v := .slice c len cc) rfl
          by_cases hx : 0 ≤ x
          · by_cases hj : j < len
            · have hji : (j : Int) < (len : Int) := by omega
              have hvj := (HP.out j hj).later hw
              obtain ⟨ad, rfl, hlen, hcell⟩ := (H3.out.below hw).at_ hj
              have HIX := Lib.hid (ix_v ad len cc j hj wr)
              have HREC := Lib.hid (IH.out j (css j) x d wr hvj (by omega))
              have HC := Lib.hid hcell
              have HL := Lib.hid (v_len hlen)
              have HB1 := Lib.hid hb0
              have HW1 := Lib.hid hw
              have HA := Lib.hid (hall hx)
              clear hvj hlen hcell hw hb0 HB0 HW hall
              go_wp2_with (first
                | (refine wpList_indexAt rfl 24 (.tmp 38) (.tmp 39) rfl _ _ _ rfl rfl HIX.out ?_)
                | (refine wpList_load_at rfl 26 (.tmp 40) rfl (ad.add (j * 6)) rfl (css j) _ HC.out Tryz.underlying26 rfl HL.out ?_))
              refine HREC.out.mono ?_
              rintro e W1 ⟨⟨r, rfl, hr⟩, hb⟩
              have HR := Lib.hid hr
              have HW2 := Lib.hid (HW1.out.trans (hb.mono HW1.out.size))
              have HB2 := Lib.hid (HB1.out.belowAll hb)
              clear hr hb
              go_wp2_with fail
              go_roundw
              case rel =>
                refine ⟨j + 1, r, by omega, by go_num, rfl, fun hr0 i hi => ?_, HB2.out, HW2.out⟩
                by_cases hij : i = j
                · subst hij; exact HR.out hr0
                · exact HA.out i (by omega)
              case measure => simp [intOf] <;> omega
            · obtain rfl : j = len := by omega
              have HA := Lib.hid (hall hx)
              have HW1 := Lib.hid hw
              clear hall hw
              go_wp2_with fail
              go_ret
              exact ⟨⟨x, rfl, fun _ => by rw [HDN.out]; have := most_le.2 HA.out; omega⟩, HW1.out⟩
          · have hx2 : ¬ x ≥ 0 := hx
            have HW1 := Lib.hid hw
            clear hall hw
            by_cases hj : j < len
            · have hji : (j : Int) < (len : Int) := by omega
              go_wp2_with fail
              go_ret
              exact ⟨⟨x, rfl, fun h => absurd h (by omega)⟩, HW1.out⟩
            · have hji : ¬ (j : Int) < (len : Int) := by omega
              go_wp2_with fail
              go_ret
              exact ⟨⟨x, rfl, fun h => absurd h (by omega)⟩, HW1.out⟩

theorem great_ref (v : Vt) (cs : List Value) (w : World) (h : VAt w v cs) :
    Calls Tryz.prog 4 #[.agg cs.toArray] w fun e w' => (∃ b : Bool, e = .returned (.bool b) ∧ (b = false → v.depth ≤ 12)) ∧ Below w.heap.size w w' := by
  have hw := Below.alloc1 w (.cells cs.toArray 26)
  have HR := Lib.hid (room_ref v cs 300 12 _ (h.later hw) (by decide))
  have HW := Lib.hid hw
  have HB0 := Lib.hid (Row.new w cs 26)
  have HI := Lib.hid (v_info h.length)
  clear hw h
  go_enter Tryz.func4, Tryz.ntmps4
  go_wp2_with (refine wpList_load_row rfl 26 (.tmp 1) rfl w.heap.size rfl 26 _ (0, 0) _ HB0.out Tryz.underlying26 rfl HI.out ?_)
  refine HR.out.mono ?_
  rintro e W1 ⟨⟨r, rfl, hr⟩, hb⟩
  have HRR := Lib.hid hr
  have HB := Lib.hid hb
  clear hb hr
  go_wp2_with fail
  go_ret
  exact ⟨⟨_, rfl, fun hb => HRR.out (by simpa using hb)⟩, HW.out.trans (HB.out.mono HW.out.size)⟩

/-- The sum of the first ones. -/
def sumN (f : Nat → Nat) : Nat → Nat
  | 0 => 0
  | n + 1 => sumN f n + f n
theorem sumN_le {f : Nat → Nat} {i : Nat} : ∀ {n : Nat}, i < n → f i ≤ sumN f n
  | n + 1, h => by
    rw [sumN]
    by_cases hi : i = n
    · subst hi; omega
    · have := sumN_le (f := f) (n := n) (show i < n by omega)
      omega
/-- How much room a schema takes. -/
def St.wt : St → Nat
  | .nul => 0
  | .mk _ words len parts => 1 + words.length + sumN (fun i => (parts i).wt) len
theorem wrap64_of {x : Int} (h1 : -9223372036854775808 ≤ x) (h2 : x ≤ 9223372036854775807) : wrap64 x = x := by
  unfold wrap64
  omega
end

section
set_option maxRecDepth 100000
set_option linter.unusedSimpArgs false
set_option linter.unusedVariables false
open Go.RowKit

def PartsX (X : Nat → Prop) (w : World) (s : Nat) (c : Option Addr) (n : Nat) (css : Nat → List Value) : Prop :=
  0 < n → ∃ ad, c = some ad ∧ X ad.block ∧ ad.block < w.heap.size ∧ ∀ j, j < n → (css j).length = s ∧ ∀ i u, (css j)[i]? = some u → w.cell? (ad.add (j * s + i)) = some u
inductive VIn (X : Nat → Prop) (w : World) : Vt → List Value → Prop
  | mk {k n : Int} {s : ByteArray} {names : List ByteArray} {ids : List Int} {len : Nat} {parts : Nat → Vt} {a b c : Option Addr} {la ca lb cb cc : Nat} (css : Nat → List Value)
      (hk : (Lit.int .i64 k).wf = true) (hn : (Lit.int .i64 n).wf = true) (hs : s.size ≤ maxLen)
      (h1 : Rd w X a la (names.map Value.string)) (h1c : la ≤ ca ∧ ca ≤ maxLen) (hss : ∀ x ∈ names, x.size ≤ maxLen)
      (h2 : Rd w X b lb (ids.map (Value.int .u64))) (h2c : lb ≤ cb ∧ cb ≤ maxLen) (hi : ∀ x ∈ ids, (Lit.int .u64 x).wf = true)
      (h3 : PartsX X w 6 c len css) (h3c : len ≤ cc ∧ cc ≤ maxLen) (h : ∀ j, j < len → VIn X w (parts j) (css j)) :
      VIn X w (.mk k n s names ids len parts) [.int .i64 k, .int .i64 n, .string s, .slice a la ca, .slice b lb cb, .slice c len cc]
inductive SIn (X : Nat → Prop) (w : World) : St → List Value → Prop
  | mk {k : Int} {words : List ByteArray} {len : Nat} {parts : Nat → St} {a c : Option Addr} {la ca cc : Nat} (css : Nat → List Value)
      (hk : (Lit.int .i64 k).wf = true)
      (h1 : Rd w X a la (words.map Value.string)) (h1c : la ≤ ca ∧ ca ≤ maxLen) (hss : ∀ x ∈ words, x.size ≤ maxLen)
      (h3 : PartsX X w 3 c len css) (h3c : len ≤ cc ∧ cc ≤ maxLen) (h : ∀ j, j < len → SIn X w (parts j) (css j)) :
      SIn X w (.mk k words len parts) [.int .i64 k, .slice a la ca, .slice c len cc]
theorem Rd.weak {w : World} {X Y : Nat → Prop} {a : Option Addr} {n : Nat} {l : List Value} (h : Rd w X a n l) (hY : ∀ g, X g → Y g) : Rd w Y a n l := ⟨h.1, fun hn => by
  obtain ⟨ad, e, hx, hlt, hc⟩ := h.2 hn
  exact ⟨ad, e, hY _ hx, hlt, hc⟩⟩
/-- What lies in blocks that stay as they are stays as it is. -/
theorem Rd.kept {w w' : World} {X Y : Nat → Prop} {a : Option Addr} {n : Nat} {l : List Value} (h : Rd w X a n l) (hs : w.heap.size ≤ w'.heap.size) (hY : ∀ g, X g → g < w.heap.size → Y g ∧ w'.heap[g]? = w.heap[g]?) : Rd w' Y a n l := ⟨h.1, fun hn => by
  obtain ⟨ad, e, hx, hlt, hc⟩ := h.2 hn
  obtain ⟨hy, hh⟩ := hY _ hx hlt
  exact ⟨ad, e, hy, Nat.lt_of_lt_of_le hlt hs, fun j u hu => (World.cell?_of_block (a := ad.add j) (by rw [add_block]; exact hh)).trans (hc j u hu)⟩⟩
theorem PartsX.kept {w w' : World} {X Y : Nat → Prop} {s : Nat} {c : Option Addr} {n : Nat} {css : Nat → List Value} (h : PartsX X w s c n css) (hs : w.heap.size ≤ w'.heap.size) (hY : ∀ g, X g → g < w.heap.size → Y g ∧ w'.heap[g]? = w.heap[g]?) : PartsX Y w' s c n css := fun hn => by
  obtain ⟨ad, e, hx, hlt, hc⟩ := h hn
  obtain ⟨hy, hh⟩ := hY _ hx hlt
  exact ⟨ad, e, hy, Nat.lt_of_lt_of_le hlt hs, fun j hj => ⟨(hc j hj).1, fun i u hu => (World.cell?_of_block (a := ad.add (j * s + i)) (by rw [add_block]; exact hh)).trans ((hc j hj).2 i u hu)⟩⟩
theorem VIn.kept {w w' : World} {X Y : Nat → Prop} (hs : w.heap.size ≤ w'.heap.size) (hY : ∀ g, X g → g < w.heap.size → Y g ∧ w'.heap[g]? = w.heap[g]?) : ∀ {v : Vt} {cs : List Value}, VIn X w v cs → VIn Y w' v cs := by
  intro v cs h
  induction h with
  | mk css hk hn hsz h1 h1c hss h2 h2c hi h3 h3c _ ih => exact .mk css hk hn hsz (Rd.kept h1 hs hY) h1c hss (Rd.kept h2 hs hY) h2c hi (h3.kept hs hY) h3c ih
theorem SIn.kept {w w' : World} {X Y : Nat → Prop} (hs : w.heap.size ≤ w'.heap.size) (hY : ∀ g, X g → g < w.heap.size → Y g ∧ w'.heap[g]? = w.heap[g]?) : ∀ {v : St} {cs : List Value}, SIn X w v cs → SIn Y w' v cs := by
  intro v cs h
  induction h with
  | mk css hk h1 h1c hss h3 h3c _ ih => exact .mk css hk (Rd.kept h1 hs hY) h1c hss (h3.kept hs hY) h3c ih
theorem PartsX.plain {w : World} {X : Nat → Prop} {s : Nat} {c : Option Addr} {n : Nat} {css : Nat → List Value} (h : PartsX X w s c n css) : Parts w s c n css := fun hn => by
  obtain ⟨ad, e, _, hlt, hc⟩ := h hn
  exact ⟨ad, e, hlt, hc⟩
theorem VIn.vat {w : World} {X : Nat → Prop} : ∀ {v : Vt} {cs : List Value}, VIn X w v cs → VAt w v cs := by
  intro v cs h
  induction h with
  | mk css hk hn hsz h1 h1c hss h2 h2c hi h3 h3c _ ih => exact .mk css hk hn hsz (Rd.weak h1 fun _ _ => trivial) h1c hss (Rd.weak h2 fun _ _ => trivial) h2c hi h3.plain h3c ih
theorem SIn.sat {w : World} {X : Nat → Prop} : ∀ {v : St} {cs : List Value}, SIn X w v cs → SAt w v cs := by
  intro v cs h
  induction h with
  | mk css hk h1 h1c hss h3 h3c _ ih => exact .mk css hk (Rd.weak h1 fun _ _ => trivial) h1c hss h3.plain h3c ih
theorem VIn.length {w : World} {X : Nat → Prop} {v : Vt} {cs : List Value} (h : VIn X w v cs) : cs.length = 6 := by cases h; rfl
theorem SIn.length {w : World} {X : Nat → Prop} {v : St} {cs : List Value} (h : SIn X w v cs) : cs.length = 3 := by cases h; rfl
theorem VIn.weak {w : World} {X Y : Nat → Prop} (hY : ∀ g, X g → Y g) {v : Vt} {cs : List Value} (h : VIn X w v cs) : VIn Y w v cs := h.kept (Nat.le_refl _) fun g hx _ => ⟨hY g hx, rfl⟩
/-- One without lists. -/
theorem VIn.bare (X : Nat → Prop) (w : World) (k n : Int) (s : ByteArray) (parts : Nat → Vt) (hk : (Lit.int .i64 k).wf = true) (hn : (Lit.int .i64 n).wf = true) (hs : s.size ≤ maxLen) :
    VIn X w (.mk k n s [] [] 0 parts) [.int .i64 k, .int .i64 n, .string s, .slice none 0 0, .slice none 0 0, .slice none 0 0] :=
  .mk (fun _ => []) hk hn hs (Rd.nil _ _ _) ⟨Nat.le_refl _, Nat.zero_le _⟩ (fun _ h => by cases h) (Rd.nil _ _ _) ⟨Nat.le_refl _, Nat.zero_le _⟩ (fun _ h => by cases h) (fun h => absurd h (Nat.lt_irrefl 0)) ⟨Nat.le_refl _, Nat.zero_le _⟩ (fun j h => absurd h (Nat.not_lt_zero j))
/-- What the call's own row says. -/
theorem own_rd {w : World} {B : Nat} {T : TypeId} {v : Value} {n : Nat} {l : List Value} (h : w.ownsRow B T 1 v n l) : ∃ a cap, v = .slice a n cap ∧ Rd w (fun g => B ≤ g) a n l ∧ (n ≤ cap ∧ cap ≤ maxLen) ∧ (0 < n → a.map (·.block) = v.ownBlock) := by
  have hlt := h.lt
  rcases h.2 with ⟨rfl, rfl⟩ | ⟨g, cap, cur, rfl, hb, hg, hnc, hcm, _, _⟩
  · refine ⟨none, 0, rfl, ⟨by have := h.1; simpa using this, fun h0 => absurd h0 (Nat.lt_irrefl 0)⟩, ⟨Nat.le_refl _, Nat.zero_le _⟩, fun h0 => absurd h0 (Nat.lt_irrefl 0)⟩
  · refine ⟨some ⟨g, 0, none⟩, cap, rfl, ⟨by have := h.1; simpa using this, fun _ => ⟨_, rfl, hb, (hlt g rfl).2, fun j u hu => h.cells (g := g) rfl j u hu⟩⟩, ⟨hnc, hcm⟩, fun _ => rfl⟩
theorem flat_len {s : Nat} {css : Nat → List Value} : ∀ {n : Nat}, (∀ j, j < n → (css j).length = s) → ((List.range n).flatMap css).length = n * s
  | 0, _ => by simp
  | n + 1, h => by
    rw [List.range_succ, List.flatMap_append, List.length_append, flat_len (fun j hj => h j (by omega))]
    simp only [List.flatMap_cons, List.flatMap_nil, List.append_nil]
    rw [h n (by omega), Nat.succ_mul]
theorem flat_get {s : Nat} {css : Nat → List Value} : ∀ {n : Nat}, (∀ j, j < n → (css j).length = s) → ∀ {j i : Nat} {u : Value}, j < n → (css j)[i]? = some u → ((List.range n).flatMap css)[j * s + i]? = some u
  | 0, _, j, _, _, hj, _ => by omega
  | n + 1, h, j, i, u, hj, hu => by
    have hi : i < s := by have := (List.getElem?_eq_some_iff.1 hu).1; rw [h j hj] at this; exact this
    have hl := flat_len (fun j (hj : j < n) => h j (by omega))
    rw [List.range_succ, List.flatMap_append]
    by_cases hjn : j < n
    · rw [List.getElem?_append_left (by rw [hl]; have := Nat.mul_le_mul_right s (show j + 1 ≤ n by omega); rw [Nat.succ_mul] at this; omega)]
      exact flat_get (fun j hj => h j (by omega)) hjn hu
    · obtain rfl : j = n := by omega
      rw [List.getElem?_append_right (by rw [hl]; omega), hl, Nat.add_sub_cancel_left]
      simpa using hu
theorem own_parts {w : World} {B s : Nat} {T : TypeId} {v : Value} {n : Nat} {css : Nat → List Value} (hs : ∀ j, j < n → (css j).length = s) (h : w.ownsRow B T s v n ((List.range n).flatMap css)) :
    ∃ a cap, v = .slice a n cap ∧ PartsX (fun g => B ≤ g) w s a n css ∧ (n ≤ cap ∧ cap ≤ maxLen) := by
  have hlt := h.lt
  rcases h.2 with ⟨rfl, rfl⟩ | ⟨g, cap, cur, rfl, hb, hg, hnc, hcm, _, _⟩
  · exact ⟨none, 0, rfl, fun h0 => absurd h0 (Nat.lt_irrefl 0), ⟨Nat.le_refl _, Nat.zero_le _⟩⟩
  · exact ⟨some ⟨g, 0, none⟩, cap, rfl, fun _ => ⟨_, rfl, hb, (hlt g rfl).2, fun j hj => ⟨hs j hj, fun i u hu => h.cells (g := g) rfl (j * s + i) u (flat_get hs hj hu)⟩⟩, ⟨hnc, hcm⟩⟩
end

section
set_option maxRecDepth 100000
set_option linter.unusedSimpArgs false
set_option linter.unusedVariables false
open Go.RowKit

/-- A part that was read: it stands in blocks behind B, and in none of these two rows. -/
def PIn (B : Nat) (w : World) (u v : Value) (s : Vt) (cs : List Value) : Prop :=
  ∃ X : Nat → Prop, VIn X w s cs ∧ ∀ b, X b → B ≤ b ∧ b < w.heap.size ∧ u.ownBlock ≠ some b ∧ v.ownBlock ≠ some b
/-- What changes nothing but what lies ahead of B and these two rows keeps it. -/
theorem PIn.only {B : Nat} {w w' : World} {u v u' v' : Value} {s : Vt} {cs : List Value} (h : PIn B w u v s cs) {S : Nat → Prop} (ho : Only S w w') (hS : ∀ b, S b → b < B ∨ u.ownBlock = some b ∨ v.ownBlock = some b)
    (hu : u'.ownBlock = u.ownBlock ∨ ∃ b, u'.ownBlock = some b ∧ w.heap.size ≤ b) (hv : v'.ownBlock = v.ownBlock ∨ ∃ b, v'.ownBlock = some b ∧ w.heap.size ≤ b) : PIn B w' u' v' s cs := by
  obtain ⟨X, h1, h2⟩ := h
  refine ⟨X, h1.kept ho.size fun b hX hb => ⟨hX, ho.block b hb fun hs => ?_⟩, fun b hX => ?_⟩
  · obtain ⟨a1, a2, a3, a4⟩ := h2 b hX
    rcases hS b hs with e | e | e
    · omega
    · exact a3 e
    · exact a4 e
  · obtain ⟨a1, a2, a3, a4⟩ := h2 b hX
    refine ⟨a1, Nat.lt_of_lt_of_le a2 ho.size, ?_, ?_⟩
    · rcases hu with e | ⟨b', e, hb'⟩
      · rw [e]; exact a3
      · rw [e]; intro e'; injection e' with e'; omega
    · rcases hv with e | ⟨b', e, hb'⟩
      · rw [e]; exact a4
      · rw [e]; intro e'; injection e' with e'; omega
theorem PIn.sat {B : Nat} {w : World} {u v : Value} {s : Vt} {cs : List Value} (h : PIn B w u v s cs) : VAt w s cs := by
  obtain ⟨X, h1, _⟩ := h
  exact h1.vat
end

section
set_option maxRecDepth 100000
set_option linter.unusedSimpArgs false
set_option linter.unusedVariables false
open Go.RowKit

theorem late_ok {b : Bool} {p : Prop} (h : (b == false) = true) : b = true → p := fun e => by rw [e] at h; cases h
theorem str_info : (Tryz.prog.info? 9).map (fun i => (i.zero, i.size, i.bytes)) = some (some (.string ByteArray.empty), 1, 16) := by kernel_rfl
theorem val_info : (Tryz.prog.info? 26).map (fun i => (i.zero, i.size, i.bytes)) = some (some (.agg #[.int .i64 0, .int .i64 0, .string ByteArray.empty, .slice none 0 0, .slice none 0 0, .slice none 0 0]), 6, 104) := by kernel_rfl
theorem info3 {P : Program} {t : TypeId} {z : Option Value} {s b : Nat} (h : (P.info? t).map (fun i => (i.zero, i.size, i.bytes)) = some (z, s, b)) : ∃ i, P.info? t = some i ∧ i.zero = z ∧ i.size = s ∧ i.bytes = b := by
  cases hi : P.info? t with
  | none => rw [hi] at h; cases h
  | some i =>
    rw [hi] at h
    simp only [Option.map_some, Option.some.injEq, Prod.mk.injEq] at h
    exact ⟨i, rfl, h.1, h.2.1, h.2.2⟩
theorem Reads.load_at {P : Program} {S : World → Prop} {o : Oper} {a : Act} (ty : TypeId) (x : Operand) (ho : o.op = .load ty x) (ad : Addr) (hx : a.eval x = .pointer (some ad)) (cs : List Value) (d : TypeDesc) (hS : ∀ w, S w → ∀ j v, cs[j]? = some v → w.cell? (ad.add j) = some v)
    (hu : P.underlying ty = some d) (hd : rowD d = true) (hi : (P.info? ty).map (·.size) = some cs.length) : Reads P S o (.agg cs.toArray) a := fun w hw => by
  unfold execOp
  simp only [ho, hx, Instr.loadAt, Instr.sureAddr, Sem.run_bind, Sem.run_pure, Result.andThen_ok, run_loadVar_at w ad ty cs d (hS w hw) hu hd hi]
theorem mk_str (x : ByteArray) (w : World) : (Instr.buildSlice 22 1 #[(0, .string x)]).run Tryz.prog w = .ok (.slice (some ⟨w.heap.size, 0, none⟩) 1 1) (w.alloc (.cells #[.string x] 9)) := by
  go_simp
theorem mk_val {ds : List Value} (h : ds.length = 6) (w : World) : (Instr.buildSlice 24 1 #[(0, .agg ds.toArray)]).run Tryz.prog w = .ok (.slice (some ⟨w.heap.size, 0, none⟩) 1 1) (w.alloc (.cells ds.toArray 26)) := by
  obtain ⟨i, hi, hz, hs, hb⟩ := info3 val_info
  refine run_buildSlice w _ _ 1 _ _ i _ Tryz.underlying24 hi hz (by rw [hs]; decide) (by rw [hs]; decide) ?_
  rw [hs]
  have := Go.Great.fill_whole (s := 6) (by omega) [Value.agg ds.toArray] ((Array.range (1 * 6)).map ((Value.agg #[.int .i64 0, .int .i64 0, .string ByteArray.empty, .slice none 0 0, .slice none 0 0, .slice none 0 0]).cells[· % (Value.agg #[.int .i64 0, .int .i64 0, .string ByteArray.empty, .slice none 0 0, .slice none 0 0, .slice none 0 0]).cells.size]!)) (by intro v hv; simp at hv; subst hv; simpa [Value.cells] using h) (by simp)
  simpa [Value.cells] using this
theorem st_strs {p : Addr} {old v : Value} {w : World} (hc : w.cell? p = some old) (hf : w.frozen? p = false) {a : Option Addr} {n c : Nat} (hv : v = .slice a n c) : (Instr.storeAt 22 (.pointer (some p)) v).run Tryz.prog w = .ok () (w.setCell p v) := by
  subst hv
  go_simp
theorem st_vals {p : Addr} {old v : Value} {w : World} (hc : w.cell? p = some old) (hf : w.frozen? p = false) {a : Option Addr} {n c : Nat} (hv : v = .slice a n c) : (Instr.storeAt 24 (.pointer (some p)) v).run Tryz.prog w = .ok () (w.setCell p v) := by
  subst hv
  go_simp
/-- Rows of unlike elements lie apart. -/
theorem own_ne {w : World} {B B' : Nat} {T T' : TypeId} {s s' : Nat} {v v' : Value} {n n' : Nat} {xs ys : List Value} (h : w.ownsRow B T s v n xs) (k : w.ownsRow B' T' s' v' n' ys) (hT : T ≠ T') : v.ownBlock = none ∨ v.ownBlock ≠ v'.ownBlock := by
  rcases h.2 with ⟨rfl, _⟩ | ⟨g, cap, cur, rfl, _, hg, _⟩
  · exact .inl rfl
  · refine .inr fun e => ?_
    rcases k.2 with ⟨rfl, _⟩ | ⟨g', cap', cur', rfl, _, hg', _⟩
    · cases e
    · simp only [Value.ownBlock, Option.some.injEq] at e
      rw [e, hg'] at hg
      simp only [Option.some.injEq, Obj.cells.injEq] at hg
      exact hT hg.2.1.symm
theorem own_form {w : World} {B : Nat} {T : TypeId} {s : Nat} {v : Value} {n : Nat} {xs : List Value} (h : w.ownsRow B T s v n xs) : ∃ a c, v = .slice a n c := by
  rcases h.2 with ⟨rfl, rfl⟩ | ⟨g, cap, cur, rfl, _⟩
  · exact ⟨_, _, rfl⟩
  · exact ⟨_, _, rfl⟩
theorem own_drew {w : World} {B : Nat} {T : TypeId} {s : Nat} {v : Value} {n : Nat} {xs : List Value} (h : w.ownsRow B T s v n xs) : w.drew.ownsRow B T s v n xs := h
theorem own_set {w : World} {B : Nat} {T : TypeId} {s : Nat} {v : Value} {n : Nat} {xs : List Value} (h : w.ownsRow B T s v n xs) {p : Addr} (hp : p.block < B) (u : Value) : (w.setCell p u).ownsRow B T s v n xs := by
  refine ⟨h.1, ?_⟩
  rcases h.2 with hn | ⟨g, cap, cur, rfl, hb, hg, rest⟩
  · exact .inl hn
  · exact .inr ⟨g, cap, cur, rfl, hb, (Below.heap_setCell _ _ _ _ (by omega)).trans hg, rest⟩
/-- The blocks of two rows. -/
def Own2 (v v' : Value) (g : Nat) : Prop := v.ownBlock = some g ∨ v'.ownBlock = some g
theorem flat_more (css : Nat → List Value) (n : Nat) (ds : List Value) : (List.range (n + 1)).flatMap (fun i => if i = n then ds else css i) = (List.range n).flatMap css ++ ds := by
  rw [List.range_succ, List.flatMap_append]
  simp only [List.flatMap_cons, List.flatMap_nil, List.append_nil, if_true]
  congr 1
  have h : ∀ m, m ≤ n → (List.range m).flatMap (fun i => if i = n then ds else css i) = (List.range m).flatMap css := by
    intro m
    induction m with
    | zero => intro _; rfl
    | succ m ih =>
      intro hm
      rw [List.range_succ, List.flatMap_append, List.flatMap_append, ih (by omega)]
      simp only [List.flatMap_cons, List.flatMap_nil, List.append_nil]
      rw [if_neg (by omega)]
  exact h n (Nat.le_refl _)
theorem take_more (l : List ByteArray) {j : Nat} (h : j < l.length) : (l.take (j + 1)).map Value.string = (l.take j).map Value.string ++ [.string (nth l j)] := by
  rw [List.take_add_one, List.map_append]
  congr 1
  unfold nth
  rw [List.getD, List.getElem?_eq_getElem h]
  rfl
end

section
set_option maxRecDepth 100000
set_option linter.unusedSimpArgs false
set_option linter.unusedVariables false
open Go.RowKit

theorem sch_info_ : (Tryz.prog.info? 26).map (fun i => (i.zero, i.size, i.bytes)) = some (some (.agg #[.int .i64 0, .int .i64 0, .string ByteArray.empty, .slice none 0 0, .slice none 0 0, .slice none 0 0]), 6, 104) := by kernel_rfl
theorem VIn.form {X : Nat → Prop} {w : World} {s : Vt} {cs : List Value} (h : VIn X w s cs) : ∃ (k n : Int) (x : ByteArray) (a : Option Addr) (la ca : Nat) (b : Option Addr) (lb cb : Nat) (c : Option Addr) (lc cc : Nat), cs = [.int .i64 k, .int .i64 n, .string x, .slice a la ca, .slice b lb cb, .slice c lc cc] := by
  cases h
  exact ⟨_, _, _, _, _, _, _, _, _, _, _, _, rfl⟩
def fsB (l : List ByteArray) (parts : Nat → Vt) (n : Nat) : List UInt8 := (List.range n).flatMap fun i => wB (nth l i) ++ (parts i).bytes
theorem fsB_more (l : List ByteArray) (parts : Nat → Vt) (n : Nat) : fsB l parts (n + 1) = fsB l parts n ++ (wB (nth l n) ++ (parts n).bytes) := by
  unfold fsB
  rw [List.range_succ, List.flatMap_append]
  simp
theorem fsB_split (l : List ByteArray) (parts : Nat → Vt) {j : Nat} : ∀ {n : Nat}, j ≤ n → ∃ R, fsB l parts n = fsB l parts j ++ R
  | 0, h => ⟨[], by obtain rfl : j = 0 := by omega
                    simp⟩
  | n + 1, h => by
    by_cases e : j = n + 1
    · subst e
      exact ⟨[], by simp⟩
    · obtain ⟨R, hR⟩ := fsB_split l parts (j := j) (n := n) (by omega)
      exact ⟨R ++ (wB (nth l n) ++ (parts n).bytes), by rw [fsB_more, hR, List.append_assoc]⟩
theorem rise_at {l : List ByteArray} (h : riseB l = true) {j : Nat} (hj : j < l.length) : folB (l.take j) (nth l j) = true := by
  rw [rise_n] at h
  rw [← Bool.not_eq_false]
  intro e
  have h1 : riseN l (j + 1) = false := by rw [riseN_more l (by omega), e, Bool.and_false]
  rw [riseN_no h1 (by omega)] at h
  cases h

/-- What stands at the head of a round. -/
structure RFi (w wr : World) (g : Nat) (A : Option Addr) (c : Nat) (F : Nat → Prop) (k : List UInt8) (p : Nat) (l : List ByteArray) (parts : Nat → Vt) (j : Nat) (v u : Value) (css : Nat → List Value) : Prop where
  box : Row wr w.heap.size 22 [v]
  row : wr.ownsRow (w.heap.size + 1) 9 1 v j ((l.take j).map Value.string)
  prow : wr.ownsRow (w.heap.size + 1) 26 6 u j ((List.range j).flatMap css)
  pin : ∀ i, i < j → PIn (w.heap.size + 1) wr v u (parts i) (css i)
  rd : Readto w wr g A c F k p 0

set_option maxHeartbeats 3200000 in
theorem sfread_any (g : Nat) (A : Option Addr) (c : Nat) (F : Nat → Prop) (k : List UInt8) (p : Nat) (l : List ByteArray) (parts : Nat → Vt) (R : List UInt8) (fq : FuncId) (fn : Func) (caps : Array Value) (w : World) (h : Rr w g A c F k p 0)
    (hfn : Tryz.prog.funcs[fq]? = some fn) (hfm : (fn.name == "runtime.NumGoroutine") = false) (hfb : fn.body.isNone = false)
    (hk : k.drop p = enc l.length ++ (fsB l parts l.length ++ R)) (h8 : l.length ≤ 8) (hw : riseB l = true) (hF : ∀ j, F j → j < g)
    (hP : ∀ j, j < l.length → ∀ (w' : World) (p' : Nat) (R' : List UInt8), Only (fun b => b = g) w w' → Rr w' g A c F k p' 0 → k.drop p' = (parts j).bytes ++ R' →
      Calls Tryz.prog fq caps w' fun e w'' => ∃ cs, e = .returned (.agg cs.toArray) ∧ (∃ X, VIn X w'' (parts j) cs ∧ ∀ b, X b → w'.heap.size ≤ b ∧ b < w''.heap.size) ∧ Readto w' w'' g A c F k (p' + (parts j).bytes.length) 0) :
    Calls Tryz.prog 75 #[.pointer (some ⟨g, 0, none⟩), .func (.func fq) #[] caps] w fun e w' => ∃ v u css, e = .returned (.tuple #[v, u]) ∧ RFi w w' g A c F k (p + ((enc l.length).length + (fsB l parts l.length).length)) l parts l.length v u css := by
  obtain ⟨i0, hi, hz0, hz1, hz2⟩ := info_parts str_info_
  obtain ⟨k0, hi2, hy0, hy1, hy2⟩ := info_parts sch_info_
  have hgl := h.lt
  have HCT := Lib.hid (count_any g A c F k p l.length (fsB l parts l.length ++ R) (w.alloc (.cells #[.slice none 0 0] 22)) (h.below (below_new w _)) hk h8)
  have HK := Lib.hid hk
  have HWD := Lib.hid hw
  have HF := Lib.hid hF
  have HP := Lib.hid hP
  obtain ⟨n, hn⟩ : ∃ n, l.length = n := ⟨_, rfl⟩
  rw [hn] at HCT h8 HK HP ⊢
  have HN := Lib.hid hn
  have HBX := Lib.hid (Row.new w [.slice none 0 0] 22)
  clear h hk hw hn hF hP
  go_enter Tryz.func75, Tryz.ntmps75
  go_wp2_with fail
  refine HCT.out.mono ?_
  rintro e W1 ⟨rfl, hto⟩
  have HBX1 := Lib.hid (HBX.out.only hto.only (by omega))
  have HT := Lib.hid (readto_from hto)
  clear hto
  go_wp2_with fail
  go_loopw [5, 8] (fun u i wr => ∃ (j : Nat) (v : Value) (css : Nat → List Value), j ≤ n ∧ i = .int .i64 (j : Int) ∧ RFi w wr g A c F k (p + ((enc n).length + (fsB l parts j).length)) l parts j v u css) (fun _ i _ => n - (intOf i).toNat)
  case atStart => exact ⟨0, .slice none 0 0, fun _ => [], Nat.zero_le _, rfl, ⟨HBX1.out, World.ownsRow_nil _ _ _ _, World.ownsRow_nil _ _ _ _, fun i hi => absurd hi (Nat.not_lt_zero _), HT.out⟩⟩
  case round =>
    obtain ⟨j, v, css, hjn, rfl, hinv⟩ := hrel
    have HINV := Lib.hid hinv
    have hblt := hinv.box.lt
    clear hinv
    obtain ⟨a, cv, rfl⟩ := own_slice HINV.out.row
    have bj0 : (0 : Int) ≤ (j : Int) := by omega
    by_cases hj : j < n
    · have hji : (j : Int) < (n : Int) := by omega
      have hjl : j < l.length := by rw [HN.out]; exact hj
      have hbc := HINV.out.box.cell (k := 0) rfl
      have hsz : (nth l j).size ≤ 64 := riseB_size HWD.out hjl
      have hnew : folB (l.take j) (nth l j) = true := rise_at HWD.out hjl
      obtain ⟨R2, hR2⟩ := fsB_split l parts (j := j + 1) (n := n) (by omega)
      have hkd : k.drop (p + ((enc n).length + (fsB l parts j).length)) = enc (nth l j).size ++ ((nth l j).data.toList ++ ((parts j).bytes ++ (R2 ++ R))) := by
        rw [← Nat.add_assoc]
        refine drop_more (drop_more ?_)
        rw [HK.out, hR2, fsB_more]
        unfold wB
        simp only [List.append_assoc]
      have hkd2 := Lib.hid hkd
      have hrd : Rd wr.drew (fun q => q ≠ g) a j ((l.take j).map Value.string) := (Rd.of_own (w := wr.drew) HINV.out.row).mono fun q _ hq => by
        have := (HINV.out.row.lt q hq).1
        omega
      have HW := Lib.hid (fword_any g A c F k _ ⟨w.heap.size, 0, none⟩ a j cv (l.take j) (nth l j) ((parts j).bytes ++ (R2 ++ R)) wr.drew (HINV.out.rd.rr.below (Below.refl _ _).drew) hkd hsz (by omega) hnew hbc (by show w.heap.size ≠ g; omega) hrd)
      have HSM := Lib.hid (strs_more l hjl)
      have HWM := Lib.hid (fsB_more l parts j)
      have hwl : (wB (nth l j)).length = (enc (nth l j).size).length + (nth l j).size := by unfold wB; simp
      clear hkd hnew hrd hR2
      generalize nth l j = x at *
      go_wp2_with fail
      refine startT (fun w' => w'.cell? ⟨w.heap.size, 0, none⟩ = some (.slice a j cv)) [5] (by kernel_rfl) ?_
      have hS0 : wr.drew.cell? ⟨w.heap.size, 0, none⟩ = some (.slice a j cv) := hbc
      refine takeT 0 (some 10) rfl rfl (by kernel_rfl) (by kernel_rfl) (fun _ _ _ h => h) (Reads.load 22 (.tmp 4) rfl _ _ rfl (fun w' h => ld_strs_ h rfl)) hS0 ?_
      simp only [Act.put, List.setIfInBounds_toArray, List.set_cons_zero, List.set_cons_succ]
      refine takeT 1 (some 11) rfl rfl (by kernel_rfl) (by kernel_rfl) (fun _ _ _ h => h) (Reads.move (x := .tmp 0) rfl rfl) hS0 ?_
      simp only [Act.put, List.setIfInBounds_toArray, List.set_cons_zero, List.set_cons_succ]
      refine takeT 2 (some 12) (v := .func (.func 99) #[] #[.pointer (some ⟨w.heap.size, 0, none⟩)]) rfl rfl (by kernel_rfl) (by kernel_rfl) (fun _ _ _ h => h) (Reads.makeFunc 99 (.tmp 4) rfl _ rfl (fun w' => mk_func_ _ _ w')) hS0 ?_
      simp only [Act.put, List.setIfInBounds_toArray, List.set_cons_zero, List.set_cons_succ]
      refine oneT 3 (by kernel_rfl) rfl (by kernel_rfl) (fun K hK => ?_)
      refine wp_call_any (args := [.pointer (some ⟨g, 0, none⟩), .func (.func 99) #[] #[.pointer (some ⟨w.heap.size, 0, none⟩)]]) rfl Tryz.func73 (by kernel_rfl) (by kernel_rfl) rfl HW.out ?_
      rintro e W3 ⟨rfl, hto3⟩
      refine ⟨_, rfl, ?_⟩
      have hb3 : Row W3 w.heap.size 22 [.slice a j cv] := (show Row wr.drew w.heap.size 22 [.slice a j cv] from HINV.out.box).only hto3.only (by omega)
      have hS3 := hb3.cell (k := 0) rfl
      have ho3 : W3.ownsRow (w.heap.size + 1) 9 1 (.slice a j cv) j ((l.take j).map Value.string) := own_only (w := wr.drew) HINV.out.row hto3.only (fun q hq e => by have h1 := (HINV.out.row.lt q hq).1; have h2 : q = g := e; omega)
      have ht3 : Readto w W3 g A c F k _ 0 := ⟨hto3.rr, (HINV.out.rd.only.trans (Only.of_below (Below.refl _ _).drew _) fun _ _ h => h).trans hto3.only fun _ _ h => h⟩
      refine hK.out _ _ (fun _ => hS3) ?_
      clear hK K
      change wpAnyT _ _ _ _ _ _ _ _ (Act.put _ (some 13) _) _
      simp only [Act.put, List.setIfInBounds_toArray, List.set_cons_zero, List.set_cons_succ]
      have hb4 := hb3.alloc (.cells #[.string x] 9)
      have ho4 := ho3.alloc (.cells #[.string x] 9)
      have ht4 := readto_new ht3 (.cells #[.string x] 9)
      refine oneT 4 (by kernel_rfl) rfl (by kernel_rfl) (fun K hK => ?_)
      refine wp_slice1 22 9 (.tmp 13) rfl (.string x) rfl #[.string x] (fun w' => mk_str_ x w') ?_
      refine hK.out _ _ (fun _ => hb4.cell (k := 0) rfl) ?_
      clear hK K
      change wpAnyT _ _ _ _ _ _ _ _ (Act.put _ (some 14) _) _
      simp only [Act.put, List.setIfInBounds_toArray, List.set_cons_zero, List.set_cons_succ]
      have hsz3 := hb3.lt
      refine oneT 5 (by kernel_rfl) rfl (by kernel_rfl) (fun K hK => ?_)
      refine wp_append_at (.tmp 10) (.tmp 14) 22 rfl (w.heap.size + 1) 9 i0 (.string ByteArray.empty) 1 16 Tryz.underlying22 hi hz0 hz1 hz2 rfl (by decide) (.slice a j cv) j _ rfl ho4 ⟨W3.heap.size, 0, none⟩ 1 1 [.string x] rfl rfl (Go.cell_one_new W3 (.string x) _) (by intro u hu; simp at hu; subst hu; rfl) (by unfold maxLen; omega) (by omega) (by simp; omega) (fun v5 W5 ho5 hg5 hat5 => ?_)
      refine hK.out _ _ (late_ok_ (by kernel_rfl)) ?_
      clear hK K
      change wpAnyT _ _ _ _ _ _ _ _ (Act.put _ (some 15) _) _
      simp only [Act.put, List.setIfInBounds_toArray, List.set_cons_zero, List.set_cons_succ]
      have hno : ∀ q, (Value.slice a j cv).ownBlock = some q → w.heap.size + 1 ≤ q := fun q hq => (ho4.lt q hq).1
      have ht5 := readto_grown ht4 hgl HF.out hg5 (fun q hq => by have := hno q hq; omega)
      have hb5 : Row W5 w.heap.size 22 [.slice a j cv] := hb4.only (only_grown hg5) (fun e => by have := hno _ e; omega)
      have HA5 := Lib.hid (show v5.ownBlock = (Value.slice a j cv).ownBlock ∨ ∃ b, v5.ownBlock = some b ∧ wr.heap.size ≤ b from hat5.imp id fun e => ⟨_, e, by have h1 := hto3.only.size; have h2 : wr.drew.heap.size = wr.heap.size := rfl; simp; omega⟩)
      clear hat5
      obtain ⟨a5, c5, rfl⟩ := own_slice ho5
      refine oneT 6 (by kernel_rfl) rfl (by kernel_rfl) (fun K hK => ?_)
      refine wp_store_cell 22 (.tmp 4) (.tmp 15) rfl ⟨w.heap.size, 0, none⟩ rfl (.slice a5 (j + 1) c5) rfl (st_strs_ (hb5.cell (k := 0) rfl) (hb5.free 0) rfl) ?_
      refine hK.out _ _ (late_ok_ (by kernel_rfl)) ?_
      clear hK K
      change wpAnyT _ _ _ _ _ _ _ _ (Act.put _ none _) _
      simp only [Act.put, List.setIfInBounds_toArray, List.set_cons_zero, List.set_cons_succ]
      refine doneT (by kernel_rfl) ?_ _
      have hne5 := own_ne HINV.out.row HINV.out.prow (by decide)
      have hO6 : Only (fun b => b = g ∨ b = w.heap.size ∨ (Value.slice a j cv).ownBlock = some b) wr (W5.setCell ⟨w.heap.size, 0, none⟩ (.slice a5 (j + 1) c5)) :=
        (((((Only.of_below (Below.refl _ _).drew _).trans hto3.only fun _ _ h => .inl h).alloc (.cells #[.string x] 9)).trans (only_grown hg5) fun _ _ h => .inr (.inr h))).setCell (.inl (.inr (.inl rfl))) _
      have HO6 := Lib.hid hO6
      have HB6 := Lib.hid (show Row (W5.setCell ⟨w.heap.size, 0, none⟩ (.slice a5 (j + 1) c5)) w.heap.size 22 [.slice a5 (j + 1) c5] from hb5.set 0 _)
      have HR6 := Lib.hid (own_set_ ho5 (p := ⟨w.heap.size, 0, none⟩) (by show w.heap.size < _; omega) (.slice a5 (j + 1) c5))
      have HT6 := Lib.hid (show Readto w (W5.setCell ⟨w.heap.size, 0, none⟩ (.slice a5 (j + 1) c5)) g A c F k (p + ((enc n).length + (fsB l parts j).length) + ((enc x.size).length + x.size)) 0 from
        ⟨ht5.rr.only (Only.setCell (S := fun q => q = w.heap.size) (Only.refl _ _) (.inl rfl) _) (by show ¬ g = w.heap.size; omega) (fun q hq e => by have h1 := HF.out q hq; have h2 : q = w.heap.size := e; omega), ht5.only.trans (Only.setCell (S := fun q => q = w.heap.size) (Only.refl _ _) (.inl rfl) _) fun q hq e => by have h2 : q = w.heap.size := e; omega⟩)
      have HU6 := Lib.hid (own_only HINV.out.prow hO6 (fun q hq h => by
        have h1 := (HINV.out.prow.lt q hq).1
        rcases h with h | h | h
        · omega
        · omega
        · rcases hne5 with e | e
          · rw [e] at h; cases h
          · exact e (h.trans hq.symm)))
      generalize W5.setCell ⟨w.heap.size, 0, none⟩ (.slice a5 (j + 1) c5) = W6 at *
      have hOg : Only (fun b => b = g) w W6 := HT6.out.only
      have hkd3 : k.drop (p + ((enc n).length + (fsB l parts j).length) + ((enc x.size).length + x.size)) = (parts j).bytes ++ (R2 ++ R) := by
        have h1 := drop_more hkd2.out
        have h2 := drop_more h1
        rw [show x.data.toList.length = x.size by simp] at h2
        rw [← Nat.add_assoc]
        exact h2
      have HC := Lib.hid (show Calls Tryz.prog fq (([] : List Value).toArray ++ caps) W6 _ from by simpa using HP.out j hj W6 _ (R2 ++ R) hOg HT6.out.rr hkd3)
      clear hkd3 hOg
      go_wp2_with (refine wpList_call_fn rfl (x := .tmp 17) (xs := []) rfl rfl hfn hfm hfb rfl HC.out ?_)
      intro e W7 ds he X hX hXb hto7
      subst he
      refine ⟨_, rfl, ?_⟩
      obtain ⟨kd, nd, sd, ad, lad, cad, bd, lbd, cbd, ed, led, ced, rfl⟩ := hX.form
      have HX := Lib.hid hX
      have HXB := Lib.hid hXb
      have HT7 := Lib.hid hto7
      have HU7 := Lib.hid (own_only HU6.out hto7.only (fun q hq e => by have h1 := (HU6.out.lt q hq).1; have h2 : q = g := e; omega))
      clear hX hXb hto7
      have HU8 := Lib.hid (HU7.out.alloc (.cells #[.int .i64 kd, .int .i64 nd, .string sd, .slice ad lad cad, .slice bd lbd cbd, .slice ed led ced] 26))
      have HRN := Lib.hid (Row.new W7 [.int .i64 kd, .int .i64 nd, .string sd, .slice ad lad cad, .slice bd lbd cbd, .slice ed led ced] 26)
      have hs67 := HT7.out.only.size
      have hs6 := HT6.out.only.size
      have hb6 := HB6.out.lt
      have hgB : g < w.heap.size := hgl
      go_wp2_with (at_builtin; refine wpList_append_own_at _ rfl (.tmp 16) (.tmp 19) 24 rfl (w.heap.size + 1) 26 k0 (.agg #[.int .i64 0, .int .i64 0, .string ByteArray.empty, .slice none 0 0, .slice none 0 0, .slice none 0 0]) 6 104 Tryz.underlying24 hi2 hy0 hy1 hy2 rfl (by omega) u5 j ((List.range j).flatMap css) rfl HU8.out ⟨W7.heap.size, 0, none⟩ 1 1 [.int .i64 kd, .int .i64 nd, .string sd, .slice ad lad cad, .slice bd lbd cbd, .slice ed led ced] rfl rfl ?cn ?co ?c1 ?c2 ?c3 ?_)
      case cn =>
        intro j u hu
        have ea : (⟨W7.heap.size, 0, none⟩ : Addr).add j = ⟨W7.heap.size, j, none⟩ := by unfold Addr.add; split <;> simp_all
        rw [ea]
        exact HRN.out.cell hu
      case co => intro u hu; simp at hu; rcases hu with rfl | rfl | rfl | rfl | rfl | rfl <;> rfl
      case c1 => unfold maxLen; omega
      case c2 => omega
      case c3 => simp; omega
      intro u9 W9 hown9 hg9 hex9 hat9
      have HO9 := Lib.hid hown9
      have HG9 := Lib.hid hg9
      have HA9 := Lib.hid hat9
      clear hown9 hg9 hat9
      have hu5lt : ∀ q, u5.ownBlock = some q → q < W6.heap.size := fun q hq => (HU6.out.lt q hq).2
      have hv5lt : ∀ q, (Value.slice a5 (j + 1) c5).ownBlock = some q → q < W6.heap.size := fun q hq => (HR6.out.lt q hq).2
      have hu5lo : ∀ q, u5.ownBlock = some q → w.heap.size + 1 ≤ q := fun q hq => (HU6.out.lt q hq).1
      have hs9 := HG9.out.size
      have h89 : W7.heap.size + 1 ≤ W9.heap.size := by simpa using hs9
      have h9 : Only (fun q => u5.ownBlock = some q) W7 W9 := ((Only.refl _ _).alloc _).trans (only_grown HG9.out) fun _ _ h => h
      have h69 : Only (fun q => q = g ∨ u5.ownBlock = some q) W6 W9 := ((Only.refl (fun q => q = g ∨ u5.ownBlock = some q) W6).trans HT7.out.only (fun _ _ h => .inl h)).trans h9 (fun _ _ h => .inr h)
      have HN2 := Lib.hid (show RFi w W9 g A c F k (p + ((enc n).length + (fsB l parts (j + 1)).length)) l parts (j + 1) (.slice a5 (j + 1) c5) u9 (fun i => if i = j then [.int .i64 kd, .int .i64 nd, .string sd, .slice ad lad cad, .slice bd lbd cbd, .slice ed led ced] else css i) from by
        refine ⟨HB6.out.only h69 (fun e => by rcases e with e | e; omega; have := hu5lo _ e; omega), ?_, ?_, ?_, ?_⟩
        · rw [HSM.out]
          refine own_only HR6.out h69 fun q hq e => ?_
          rcases e with e | e
          · have := (HR6.out.lt q hq).1; omega
          · rcases own_ne HR6.out HU6.out (by decide) with h | h
            · rw [h] at hq; cases hq
            · exact h (hq.trans e.symm)
        · rw [flat_more]
          exact HO9.out
        · intro i hi
          by_cases e : i = j
          · subst e
            rw [if_pos rfl]
            refine ⟨X, HX.out.kept h9.size fun b hX hb => ⟨hX, h9.block b hb fun h => ?_⟩, fun b hX => ?_⟩
            · have := hu5lt b h; have := HXB.out b hX; omega
            · have h1 := HXB.out b hX
              refine ⟨by omega, by omega, fun h => ?_, fun h => ?_⟩
              · have := hv5lt b h; omega
              · rcases HA9.out with h2 | h2
                · rw [h2] at h; have := hu5lt b h; omega
                · rw [h2] at h; simp at h; omega
          · rw [if_neg e]
            have p6 : PIn (w.heap.size + 1) W6 (.slice a5 (j + 1) c5) u5 (parts i) (css i) := (HINV.out.pin i (by omega)).only HO6.out (fun b hb => by rcases hb with hb | hb | hb; (left; omega); (left; omega); exact .inr (.inl hb)) HA5.out (.inl rfl)
            refine p6.only h69 (fun b hb => by rcases hb with hb | hb; (left; omega); exact .inr (.inr hb)) (.inl rfl) ?_
            rcases HA9.out with h2 | h2
            · exact .inl h2
            · exact .inr ⟨_, h2, by omega⟩
        · have e : p + ((enc n).length + (fsB l parts j).length) + ((enc x.size).length + x.size) + (parts j).bytes.length = p + ((enc n).length + (fsB l parts (j + 1)).length) := by rw [HWM.out, List.length_append, List.length_append, hwl]; omega
          have h1 := readto_new (readto_trans HT6.out HT7.out) (.cells #[.int .i64 kd, .int .i64 nd, .string sd, .slice ad lad cad, .slice bd lbd cbd, .slice ed led ced] 26)
          rw [e] at h1
          exact readto_grown h1 hgl HF.out HG9.out fun q hq => by have := hu5lo q hq; omega)
      go_wp2_with fail
      go_roundw
      case rel => exact ⟨j + 1, _, _, by omega, by go_num, HN2.out⟩
      case measure => simp [intOf] <;> omega
    · obtain rfl : j = n := by omega
      have hb2 : Row (wr.setCell ⟨w.heap.size, 0, none⟩ (.slice a j cv)) w.heap.size 22 [.slice a j cv] := HINV.out.box.set 0 _
      have hbc := HINV.out.box.cell (k := 0) rfl
      have hbf := HINV.out.box.free 0
      have hbc2 := hb2.cell (k := 0) rfl
      have hres : Tryz.f75.results = #[.cell 4 22, .tmp 5] := by kernel_rfl
      have hO : Only (fun q => q = w.heap.size) wr (wr.setCell ⟨w.heap.size, 0, none⟩ (.slice a j cv)) := Only.setCell (S := fun q => q = w.heap.size) (Only.refl _ _) (.inl rfl) _
      have HFIN := Lib.hid (show RFi w (wr.setCell ⟨w.heap.size, 0, none⟩ (.slice a j cv)) g A c F k (p + ((enc j).length + (fsB l parts j).length)) l parts j (.slice a j cv) u5 css from
        ⟨hb2, own_set_ HINV.out.row (by show w.heap.size < _; omega) _, own_set_ HINV.out.prow (by show w.heap.size < _; omega) _, fun i hi => (HINV.out.pin i hi).only hO (fun b hb => .inl (by have h2 : b = w.heap.size := hb; omega)) (.inl rfl) (.inl rfl),
          ⟨HINV.out.rd.rr.only hO (by show ¬ g = w.heap.size; omega) (fun q hq e => by have h1 := HF.out q hq; have h2 : q = w.heap.size := e; omega), HINV.out.rd.only.trans hO fun q hq e => by have h2 : q = w.heap.size := e; omega⟩⟩)
      go_wp2_with fail
      (try simp only [Exit.inBlock, Exit.then])
      refine bodyPost_ret (v := .tuple #[.slice a j cv, u5]) ?_ rfl ⟨_, _, _, rfl, HFIN.out⟩
      simp only [results, hres]
      go_simp
end

end Go.Proofs.YtkjhmplnamaoaaaGreatDoor
