/- Regions that draw their order, whose operations read, reckon, or call what leaves memory that was there as it was: whatever the order, each operation gives what it gives in the text's order. Over any program. -/
import Derived.Test.YtmiadkhfjkaidaaGreatDoorMg2
import Derived.OrdersHeld
import Derived.Deep.RegionHeld
namespace Go.Proofs.YtmiadkhfjkaidaaGreatDoor
section
open Go.RowKit

section
variable {P : Program} {ops : Array Oper} {Q : Exit → Act → World → Prop} {S : World → Prop}

/-- In state a, in each world that meets S, operation o leaves v, and memory that was there as it was. -/
def Gives (P : Program) (S : World → Prop) (o : Oper) (v : Value) (a : Act) : Prop :=
  ∀ w, S w → ∀ K : Act → World → Prop, (∀ w', Below w.heap.size w w' → K (a.put o.dst v) w') → o.wp P a w K (fun _ _ _ => False)

theorem put_same {a a' : Act} {dst : Option Tmp} {u v : Value} (hs : ∀ d, dst = some d → d < a.tmps.size) (h : a.put dst u = a.put dst v) : a'.put dst u = a'.put dst v := by
  cases dst with
  | none => rfl
  | some d =>
    have h1 := congrArg (fun b : Act => b.tmps[d]?) h
    have hd := hs d rfl
    simp [Act.put, hd] at h1
    rw [h1]

theorem Gives.wp {o : Oper} {v : Value} {a a' : Act} (h : Gives P S o v a) (he : execOp a'.eval o = execOp a.eval o) (hs : ∀ d, o.dst = some d → d < a.tmps.size) {w : World} (hS : S w) :
    o.wp P a' w (fun a'' w' => a'' = a'.put o.dst v ∧ Below w.heap.size w w') Q := by
  have h1 := h w hS (fun a'' w' => a'' = a.put o.dst v ∧ Below w.heap.size w w') (fun w' hb => ⟨rfl, hb⟩)
  unfold Oper.wp at *
  rw [he]
  generalize (execOp a.eval o).run P w = r at *
  cases r with
  | ok n w' =>
    cases n <;> simp only [Oper.upon] at h1 ⊢
    case value u => exact ⟨put_same hs h1.1, h1.2⟩
    case skip => exact ⟨put_same hs h1.1, h1.2⟩
    case defer d =>
      exfalso
      have h2 := congrArg (fun b : Act => b.defers.length) h1.1
      cases hd : o.dst <;> simp [Act.put, hd] at h2
    case enter f args =>
      refine Calls.mono h1 fun e w'' he => ?_
      cases e with
      | returned u => exact ⟨put_same hs he.1, he.2⟩
      | panicked c => exact he.elim
      | outgrown => obtain ⟨_, _, hf⟩ := he; exact hf.elim
    case row row args => exact Rows.mono h1 fun u w'' he => ⟨put_same hs he.1, he.2⟩
  | halt x w' =>
    cases x <;> simp only [Oper.upon] at h1 ⊢

/-- Where operation number i leaves its value. -/
def dstOf (ops : Array Oper) (i : Nat) : Option Tmp := (ops[i]?).bind (·.dst)
/-- State a is a0 with the values that M tells. -/
structure Has (ops : Array Oper) (a0 : Act) (M : Nat → Value → Prop) (a : Act) : Prop where
  defers : a.defers = a0.defers
  size : a.tmps.size = a0.tmps.size
  there : ∀ t j u, M j u → dstOf ops j = some t → t < a0.tmps.size → a.tmps[t]? = some u
  else_ : ∀ t, (∀ j u, M j u → dstOf ops j ≠ some t) → a.tmps[t]? = a0.tmps[t]?

theorem Has.start (a0 : Act) : Has ops a0 (fun _ _ => False) a0 := ⟨rfl, rfl, fun _ _ _ h => h.elim, fun _ _ => rfl⟩
theorem Has.put {a0 a : Act} {M M' : Nat → Value → Prop} (h : Has ops a0 M a) {i : Nat} {v : Value} (hd : ∀ j u t, M j u → dstOf ops i = some t → dstOf ops j ≠ some t)
    (hM : ∀ j u, M' j u ↔ M j u ∨ (j = i ∧ u = v)) : Has ops a0 M' (a.put (dstOf ops i) v) := by
  cases hdi : dstOf ops i with
  | none =>
    refine ⟨h.defers, h.size, fun t j u hm hj ht => ?_, fun t ht => ?_⟩
    · rcases (hM j u).1 hm with hm | ⟨rfl, rfl⟩
      · exact h.there t j u hm hj ht
      · rw [hdi] at hj; cases hj
    · exact h.else_ t fun j u hm => ht j u ((hM j u).2 (.inl hm))
  | some d =>
    refine ⟨h.defers, by simp [Act.put, h.size], fun t j u hm hj ht => ?_, fun t ht => ?_⟩
    · rcases (hM j u).1 hm with hm | ⟨rfl, rfl⟩
      · have hne : d ≠ t := fun e => hd j u t hm (e ▸ hdi) hj
        simp only [Act.put, Array.getElem?_setIfInBounds_ne hne]
        exact h.there t j u hm hj ht
      · rw [hdi] at hj
        cases hj
        simp [Act.put, h.size, ht]
    · have hne : d ≠ t := fun e => ht i v ((hM i v).2 (.inr ⟨rfl, rfl⟩)) (e ▸ hdi)
      simp only [Act.put, Array.getElem?_setIfInBounds_ne hne]
      exact h.else_ t fun j u hm => ht j u ((hM j u).2 (.inl hm))
theorem Has.congr {a0 a b : Act} {M N : Nat → Value → Prop} (h : Has ops a0 M a) (k : Has ops a0 N b) {t : Nat}
    (ht : (∃ j u, M j u ∧ N j u ∧ dstOf ops j = some t) ∨ ((∀ j u, M j u → dstOf ops j ≠ some t) ∧ (∀ j u, N j u → dstOf ops j ≠ some t))) : a.tmps[t]? = b.tmps[t]? := by
  rcases ht with ⟨j, u, hm, hn, hj⟩ | ⟨hm, hn⟩
  · rcases Nat.lt_or_ge t a0.tmps.size with hlt | hge
    · rw [h.there t j u hm hj hlt, k.there t j u hn hj hlt]
    · rw [Array.getElem?_eq_none (by rw [h.size]; exact hge), Array.getElem?_eq_none (by rw [k.size]; exact hge)]
  · rw [h.else_ t hm, k.else_ t hn]
theorem Has.eq {a0 a b : Act} {M : Nat → Value → Prop} (h : Has ops a0 M a) (k : Has ops a0 M b) : a = b := by
  have ht : a.tmps = b.tmps := Array.ext_getElem? fun t => h.congr k (by
    by_cases he : ∃ j u, M j u ∧ dstOf ops j = some t
    · obtain ⟨j, u, hm, hj⟩ := he
      exact .inl ⟨j, u, hm, hm, hj⟩
    · have hn : ∀ j u, M j u → dstOf ops j ≠ some t := fun j u hm hj => he ⟨j, u, hm, hj⟩
      exact .inr ⟨hn, hn⟩)
  have hd : a.defers = b.defers := h.defers.trans k.defers.symm
  cases a; cases b
  simp only at ht hd
  subst ht hd
  rfl

/-- What looks at the same sees the same. -/
theorem exec_same {o : Oper} (hs : ∀ cs b, o.op ≠ .select cs b) {a b : Act} (h : ∀ t, t ∈ o.looksAt ops → a.tmps[t]? = b.tmps[t]?) : execOp a.eval o = execOp b.eval o := by
  refine execOp_congr o hs fun x hx => ?_
  cases x with
  | tmp t =>
    have := h t (List.mem_append_left _ (List.mem_filterMap.2 ⟨.tmp t, by simpa using hx, rfl⟩))
    simp [Act.eval, this]
  | _ => rfl
theorem wanted_same {o : Oper} {a b : Act} (h : ∀ t, t ∈ o.looksAt ops → a.tmps[t]? = b.tmps[t]?) : Region.wanted o (yielded ops a.tmps) = Region.wanted o (yielded ops b.tmps) := by
  unfold Region.wanted
  cases hg : o.guard with
  | none => rfl
  | some gw =>
    obtain ⟨g, want⟩ := gw
    have hy : yielded ops a.tmps g = yielded ops b.tmps g := by
      unfold yielded
      cases ht : (ops[g]?).bind (·.dst) with
      | none => rfl
      | some t =>
        have := h t (by simp [Oper.looksAt, hg, ht])
        simp [this]
    simp only [hy]

/-- Operation number y waits for number x. -/
def waits (ops : Array Oper) (y x : Nat) : Bool := ((ops[y]?).map fun o => o.after.any fun e => Region.binds .any e && e.on == x).getD false
theorem waits_spec {y x : Nat} {o : Oper} (ho : ops[y]? = some o) (h : waits ops y x = true) : ∃ e ∈ o.after, Region.binds .any e = true ∧ e.on = x := by
  simp only [waits, ho, Option.map_some, Option.getD_some] at h
  obtain ⟨e, he, hb⟩ := Array.any_eq_true'.1 h
  simp only [Bool.and_eq_true, beq_iff_eq] at hb
  exact ⟨e, he, hb.1, hb.2⟩
def looksOf (ops : Array Oper) (i : Nat) : List Tmp := ((ops[i]?).map (·.looksAt ops)).getD []
def dstsApart (ops : Array Oper) (i j : Nat) : Bool := match dstOf ops i with
  | some t => dstOf ops j != some t
  | none => true
def dstSeen (ops : Array Oper) (j i : Nat) : Bool := match dstOf ops j with
  | some t => (looksOf ops i).contains t
  | none => false

/-- The operations that give their values, in the text's order. -/
def detsOk (ops : Array Oper) (allocs : List Nat) : List Nat → Bool
  | [] => true
  | i :: r => (r.all fun j => j != i && dstsApart ops i j && (!dstSeen ops j i || waits ops j i) && (!dstSeen ops i j || waits ops j i)) && !dstSeen ops i i && (allocs.all fun k => k != i && dstsApart ops i k && !dstSeen ops k i) && detsOk ops allocs r
def allocsOk (ops : Array Oper) : List Nat → Bool
  | [] => true
  | i :: r => (r.all fun j => j != i && dstsApart ops i j) && allocsOk ops r
/-- Nothing waits for what comes later; and what is late waits for all others. -/
def lateOk (ops : Array Oper) (early late : List Nat) : Bool :=
  ((List.range ops.size).all fun i => (early.contains i != late.contains i)) &&
  ((List.range ops.size).all fun i => ((ops[i]?).map fun o => o.after.all fun e => !Region.binds .any e || decide (e.on < i)).getD false) &&
  (early.all fun i => decide (i < ops.size)) &&
  (late.all fun s => early.all fun x => waits ops s x || early.any fun y => decide (x < y) && waits ops y x)

/-- One behind the other, in the text's order: what each gives; the state in the end. -/
inductive Dets (P : Program) (ops : Array Oper) (S : World → Prop) : List (Nat × Value) → Act → Act → Prop
  | nil {a : Act} : Dets P ops S [] a a
  | cons {i : Nat} {o : Oper} {v : Value} {vs : List (Nat × Value)} {a b : Act} (ho : ops[i]? = some o) (hw : Region.wanted o (yielded ops a.tmps) = true) (hg : Gives P S o v a)
      (hr : Dets P ops S vs (a.put o.dst v) b) : Dets P ops S ((i, v) :: vs) a b
  | skip {i : Nat} {o : Oper} {vs : List (Nat × Value)} {a b : Act} (ho : ops[i]? = some o) (hw : Region.wanted o (yielded ops a.tmps) = false)
      (hr : Dets P ops S vs (a.put o.dst undef) b) : Dets P ops S ((i, undef) :: vs) a b

/-- What one operation asks, in its own state. -/
def GivesAt (P : Program) (ops : Array Oper) (S : World → Prop) (o : Oper) (v : Value) (a : Act) : Prop :=
  (Region.wanted o (yielded ops a.tmps) = true ∧ Gives P S o v a) ∨ (Region.wanted o (yielded ops a.tmps) = false ∧ v = undef)

theorem Dets.all {a0 : Act} : ∀ {vs : List (Nat × Value)} {a b : Act} {M : Nat → Value → Prop} {allocs : List Nat}, Dets P ops S vs a b → Has ops a0 M a → detsOk ops allocs (vs.map (·.1)) = true →
    (∀ j u i v t, M j u → (i, v) ∈ vs → dstOf ops i = some t → dstOf ops j ≠ some t) → (∀ j u i v, M j u → (i, v) ∈ vs → dstSeen ops j i = true → waits ops i j = true) → (∀ j u i v, M j u → (i, v) ∈ vs → dstSeen ops i j = true → waits ops i j = true) →
    Has ops a0 (fun j u => M j u ∨ (j, u) ∈ vs) b ∧
    ∀ i v, (i, v) ∈ vs → ∃ (o : Oper) (ai : Act) (N : Nat → Value → Prop), ops[i]? = some o ∧ GivesAt P ops S o v ai ∧ Has ops a0 N ai ∧ (∀ j u, N j u → M j u ∨ (j, u) ∈ vs) ∧
      (∀ j u, N j u → dstSeen ops j i = true → waits ops i j = true) ∧ (∀ j u, (M j u ∨ (j, u) ∈ vs) → dstSeen ops j i = true → N j u ∨ waits ops j i = true) := by
  intro vs
  induction vs with
  | nil =>
    intro a b M allocs h hM _ _ _ _
    cases h
    exact ⟨⟨hM.defers, hM.size, fun t j u hm => hM.there t j u (hm.resolve_right (by simp)), fun t ht => hM.else_ t fun j u hm => ht j u (.inl hm)⟩, fun i v h => by cases h⟩
  | cons iv vs ih =>
    intro a b M allocs h hM hok hdst hseen hback
    obtain ⟨i, v⟩ := iv
    obtain ⟨o, ho, hg, hr⟩ : ∃ o, ops[i]? = some o ∧ GivesAt P ops S o v a ∧ Dets P ops S vs (a.put o.dst v) b := by
      cases h with
      | cons ho hw hg hr => exact ⟨_, ho, .inl ⟨hw, hg⟩, hr⟩
      | skip ho hw hr => exact ⟨_, ho, .inr ⟨hw, rfl⟩, hr⟩
    have hdo : dstOf ops i = o.dst := by simp [dstOf, ho]
    rw [List.map_cons] at hok
    simp only [detsOk, Bool.and_eq_true, List.all_eq_true] at hok
    obtain ⟨⟨⟨hrest, hself⟩, halloc⟩, hok'⟩ := hok
    have hrest' : ∀ j u, (j, u) ∈ vs → j ≠ i ∧ dstsApart ops i j = true ∧ (dstSeen ops j i = true → waits ops j i = true) ∧ (dstSeen ops i j = true → waits ops j i = true) := fun j u hj => by
      have h1 := hrest j (List.mem_map.2 ⟨(j, u), hj, rfl⟩)
      simp only [Bool.or_eq_true, Bool.not_eq_true', bne_iff_ne] at h1
      exact ⟨h1.1.1.1, h1.1.1.2, fun e => h1.1.2.resolve_left (by rw [e]; simp), fun e => h1.2.resolve_left (by rw [e]; simp)⟩
    have hself' : dstSeen ops i i = false := by simpa using hself
    have hap : ∀ j u t, (j, u) ∈ vs → dstOf ops i = some t → dstOf ops j ≠ some t := fun j u t hj ht => by
      have h1 := (hrest' j u hj).2.1
      simp only [dstsApart, ht, bne_iff_ne] at h1
      exact h1
    have hM' : Has ops a0 (fun j u => M j u ∨ (j = i ∧ u = v)) (a.put o.dst v) := hdo ▸ hM.put (fun j u t hm ht => hdst j u i v t hm (List.mem_cons_self ..) ht) (fun _ _ => Iff.rfl)
    have hih := ih hr hM' hok' (fun j u i' v' t hm hi' ht => by
        rcases hm with hm | ⟨rfl, rfl⟩
        · exact hdst j u i' v' t hm (List.mem_cons_of_mem _ hi') ht
        · exact fun e => hap i' v' t hi' e ht)
      (fun j u i' v' hm hi' he => by
        rcases hm with hm | ⟨rfl, rfl⟩
        · exact hseen j u i' v' hm (List.mem_cons_of_mem _ hi') he
        · exact (hrest' i' v' hi').2.2.2 he)
      (fun j u i' v' hm hi' he => by
        rcases hm with hm | ⟨rfl, rfl⟩
        · exact hback j u i' v' hm (List.mem_cons_of_mem _ hi') he
        · exact (hrest' i' v' hi').2.2.1 he)
    have hiff : ∀ j u, ((M j u ∨ (j = i ∧ u = v)) ∨ (j, u) ∈ vs) ↔ (M j u ∨ (j, u) ∈ (i, v) :: vs) := fun j u => by
      rw [List.mem_cons, Prod.mk.injEq, or_assoc]
    refine ⟨?_, fun i' v' hm => ?_⟩
    · have h1 := hih.1
      exact ⟨h1.defers, h1.size, fun t j u hm => h1.there t j u ((hiff j u).2 hm), fun t ht => h1.else_ t fun j u hm => ht j u ((hiff j u).1 hm)⟩
    · rcases List.mem_cons.1 hm with e | hm
      · cases e
        refine ⟨o, a, M, ho, hg, hM, fun j u h => .inl h, fun j u h he => hseen j u i v h (List.mem_cons_self ..) he, fun j u h he => ?_⟩
        rcases h with h | h
        · exact .inl h
        · rcases List.mem_cons.1 h with e | h
          · cases e; rw [hself'] at he; cases he
          · exact .inr ((hrest' j u h).2.2.1 he)
      · obtain ⟨o', ai, N, ho', hg', hN, hN1, hN2, hN3⟩ := hih.2 i' v' hm
        exact ⟨o', ai, N, ho', hg', hN, fun j u h => (hiff j u).1 (hN1 j u h), hN2, fun j u h he => hN3 j u ((hiff j u).2 h) he⟩

theorem dstSeen_of {j i : Nat} {o : Oper} (ho : ops[i]? = some o) {t : Nat} (ht : t ∈ o.looksAt ops) (hj : dstOf ops j = some t) : dstSeen ops j i = true := by
  simp only [dstSeen, hj, looksOf, ho, Option.map_some, Option.getD_some, List.contains_iff_mem]
  exact ht
theorem dstsApart_of {i j t : Nat} (h : dstsApart ops i j = true) (hi : dstOf ops i = some t) : dstOf ops j ≠ some t := by
  simp only [dstsApart, hi, bne_iff_ne] at h
  exact h
theorem detsOk_allocs {allocs : List Nat} : ∀ {l : List Nat}, detsOk ops allocs l = true → ∀ i ∈ l, ∀ k ∈ allocs, k ≠ i ∧ dstsApart ops i k = true ∧ dstSeen ops k i = false
  | [], _, _, h => by cases h
  | x :: r, hok, i, hi => by
    simp only [detsOk, Bool.and_eq_true, List.all_eq_true] at hok
    obtain ⟨⟨_, ha⟩, hr⟩ := hok
    rcases List.mem_cons.1 hi with rfl | hi
    · intro k hk
      have := ha k hk
      simp only [Bool.not_eq_true', bne_iff_ne] at this
      exact ⟨this.1.1, this.1.2, this.2⟩
    · exact detsOk_allocs hr i hi
theorem detsOk_apart {allocs : List Nat} : ∀ {l : List Nat}, detsOk ops allocs l = true → ∀ i ∈ l, ∀ j ∈ l, i ≠ j → ∀ t, dstOf ops i = some t → dstOf ops j ≠ some t
  | [], _, _, h => by cases h
  | x :: r, hok, i, hi => by
    simp only [detsOk, Bool.and_eq_true, List.all_eq_true] at hok
    obtain ⟨⟨⟨hx, _⟩, _⟩, hr⟩ := hok
    intro j hj hne t ht
    rcases List.mem_cons.1 hi with rfl | hi'
    · rcases List.mem_cons.1 hj with rfl | hj'
      · exact absurd rfl hne
      · exact dstsApart_of (hx j hj').1.1.2 ht
    · rcases List.mem_cons.1 hj with rfl | hj'
      · intro e
        exact dstsApart_of (hx i hi').1.1.2 e ht
      · exact detsOk_apart hr i hi' j hj' hne t ht
theorem detsOk_unique {allocs : List Nat} : ∀ {vs : List (Nat × Value)}, detsOk ops allocs (vs.map (·.1)) = true → ∀ {i : Nat} {u v : Value}, (i, u) ∈ vs → (i, v) ∈ vs → u = v
  | [], _, _, _, _, h, _ => by cases h
  | x :: r, hok, i, u, v, hu, hv => by
    rw [List.map_cons] at hok
    simp only [detsOk, Bool.and_eq_true, List.all_eq_true] at hok
    obtain ⟨⟨⟨hx, _⟩, _⟩, hr⟩ := hok
    have hne : ∀ y w, (y, w) ∈ r → y ≠ x.1 := fun y w hy => by
      have := (hx y (List.mem_map.2 ⟨(y, w), hy, rfl⟩)).1.1.1
      simpa using this
    rcases List.mem_cons.1 hu with e | hu'
    · subst e
      rcases List.mem_cons.1 hv with e | hv'
      · cases e; rfl
      · exact absurd rfl (hne _ _ hv')
    · rcases List.mem_cons.1 hv with e | hv'
      · subst e; exact absurd rfl (hne _ _ hu')
      · exact detsOk_unique hr hu' hv'
theorem allocsOk_apart : ∀ {l : List Nat}, allocsOk ops l = true → ∀ i ∈ l, ∀ j ∈ l, i ≠ j → ∀ t, dstOf ops i = some t → dstOf ops j ≠ some t
  | [], _, _, h => by cases h
  | x :: r, hok, i, hi => by
    simp only [allocsOk, Bool.and_eq_true, List.all_eq_true] at hok
    obtain ⟨hx, hr⟩ := hok
    intro j hj hne t ht
    rcases List.mem_cons.1 hi with rfl | hi'
    · rcases List.mem_cons.1 hj with rfl | hj'
      · exact absurd rfl hne
      · exact dstsApart_of (hx j hj').2 ht
    · rcases List.mem_cons.1 hj with rfl | hj'
      · intro e
        exact dstsApart_of (hx i hi').2 e ht
      · exact allocsOk_apart hr i hi' j hj' hne t ht

/-- A variable that the region makes: the operation, the type, its cells. -/
structure Made where
  op : Nat
  T : TypeId
  z : List Value
def AllocOp (P : Program) (ops : Array Oper) (m : Made) : Prop :=
  ∃ o, ops[m.op]? = some o ∧ o.guard = none ∧ ∀ (ρ : Operand → Value) w, (execOp ρ o).run P w = .ok (.value (.pointer (some ⟨w.heap.size, 0, none⟩))) (w.alloc (.cells m.z.toArray m.T))
theorem allocsOk_unique : ∀ {l : List Made}, allocsOk ops (l.map (·.op)) = true → ∀ m ∈ l, ∀ m' ∈ l, m.op = m'.op → m = m'
  | [], _, _, h => by cases h
  | x :: r, hok, m, hm => by
    rw [List.map_cons] at hok
    simp only [allocsOk, Bool.and_eq_true, List.all_eq_true] at hok
    obtain ⟨hx, hr⟩ := hok
    have hne : ∀ y ∈ r, y.op ≠ x.op := fun y hy => by
      have := (hx y.op (List.mem_map.2 ⟨y, hy, rfl⟩)).1
      simpa using this
    intro m' hm' he
    rcases List.mem_cons.1 hm with rfl | h1
    · rcases List.mem_cons.1 hm' with rfl | h2
      · rfl
      · exact absurd he.symm (hne _ h2)
    · rcases List.mem_cons.1 hm' with rfl | h2
      · exact absurd he (hne _ h1)
      · exact allocsOk_unique hr m h1 m' h2 he

/-- How many are not yet listed. -/
def cnt (ops : Array Oper) (L : Array Bool) : Nat := (List.range ops.size).countP fun i => !L.getD i true
theorem countP_less {p q : Nat → Bool} {i : Nat} : ∀ (l : List Nat), l.Nodup → i ∈ l → p i = true → q i = false → (∀ j, j ≠ i → q j = p j) → l.countP q + 1 = l.countP p
  | [], _, h, _, _, _ => by cases h
  | x :: r, hn, hi, hp, hq, he => by
    rw [List.nodup_cons] at hn
    rcases List.mem_cons.1 hi with rfl | hi
    · have : r.countP q = r.countP p := List.countP_congr fun j hj => by rw [he j (fun e => hn.1 (e ▸ hj))]
      simp [hp, hq, this]
    · have ih := countP_less r hn.2 hi hp hq he
      have hx : x ≠ i := fun e => hn.1 (e ▸ hi)
      rw [List.countP_cons, List.countP_cons, he x hx]
      omega
theorem cnt_set {L : Array Bool} {i : Nat} (hi : i < ops.size) (hL : L.getD i true = false) (hs : L.size = ops.size) : cnt ops (L.setIfInBounds i true) + 1 = cnt ops L := by
  unfold cnt
  refine countP_less _ List.nodup_range (List.mem_range.2 hi) (by rw [hL]; rfl) ?_ fun j hj => by rw [getD_set_ne true (Ne.symm hj)]
  have : i < L.size := by omega
  simp [this]
theorem cnt_pos {L : Array Bool} {i : Nat} (hi : i < ops.size) (hL : L.getD i true = false) : 0 < cnt ops L :=
  List.countP_pos_iff.2 ⟨i, List.mem_range.2 hi, by rw [hL]; rfl⟩
theorem wpAny_more {md : Region.Mode} : ∀ (n : Nat) (L : Array Bool) (a : Act) (w : World), wpAny P md ops Q n L a w → wpAny P md ops Q (n + 1) L a w
  | 0, L, a, w, h => ⟨fun _ => h.2, fun i hi => by rw [h.1] at hi; cases hi⟩
  | n + 1, L, a, w, h => ⟨h.1, fun i hi => wpOp_mono (fun a' w' h' => wpAny_more n _ a' w' h') (h.2 i hi)⟩
theorem wpAny_le {md : Region.Mode} {n m : Nat} (h : n ≤ m) {L : Array Bool} {a : Act} {w : World} (hw : wpAny P md ops Q n L a w) : wpAny P md ops Q m L a w := by
  induction h with
  | refl => exact hw
  | step _ ih => exact wpAny_more _ _ _ _ ih

/-- All but these are listed. -/
def lateL (ops : Array Oper) (late : List Nat) : Array Bool := (Array.range ops.size).map fun i => !late.contains i
def dstsIn (ops : Array Oper) (n : Nat) : Bool := (List.range ops.size).all fun i => match dstOf ops i with
  | some d => decide (d < n)
  | none => true

/-- The pointers to the new variables. -/
def putMade (ops : Array Oper) (gs : Nat → Nat) : List Made → Act → Act
  | [], a => a
  | m :: r, a => putMade ops gs r (a.put (dstOf ops m.op) (.pointer (some ⟨gs m.op, 0, none⟩)))
theorem Has.made {a0 : Act} {gs : Nat → Nat} : ∀ {made : List Made} {a : Act} {M : Nat → Value → Prop}, Has ops a0 M a → allocsOk ops (made.map (·.op)) = true → (∀ j u t, M j u → ∀ m ∈ made, dstOf ops m.op = some t → dstOf ops j ≠ some t) →
    Has ops a0 (fun j u => M j u ∨ ∃ m ∈ made, m.op = j ∧ u = .pointer (some ⟨gs j, 0, none⟩)) (putMade ops gs made a)
  | [], a, M, h, _, _ => ⟨h.defers, h.size, fun t j u hm => h.there t j u (hm.resolve_right fun ⟨m, hm, _⟩ => by cases hm), fun t ht => h.else_ t fun j u hm => ht j u (.inl hm)⟩
  | x :: r, a, M, h, hok, hd => by
    have hok0 := hok
    rw [List.map_cons] at hok
    simp only [allocsOk, Bool.and_eq_true, List.all_eq_true] at hok
    obtain ⟨hx, hr⟩ := hok
    have h1 : Has ops a0 (fun j u => M j u ∨ (j = x.op ∧ u = .pointer (some ⟨gs x.op, 0, none⟩))) (a.put (dstOf ops x.op) (.pointer (some ⟨gs x.op, 0, none⟩))) :=
      h.put (fun j u t hm ht => hd j u t hm x (List.mem_cons_self ..) ht) fun _ _ => Iff.rfl
    have h2 := Has.made (gs := gs) h1 hr (fun j u t hm m hmr ht => by
      rcases hm with hm | ⟨rfl, rfl⟩
      · exact hd j u t hm m (List.mem_cons_of_mem _ hmr) ht
      · intro e
        exact dstsApart_of (hx m.op (List.mem_map.2 ⟨m, hmr, rfl⟩)).2 e ht)
    have hiff : ∀ j u, ((M j u ∨ (j = x.op ∧ u = .pointer (some ⟨gs x.op, 0, none⟩))) ∨ ∃ m ∈ r, m.op = j ∧ u = .pointer (some ⟨gs j, 0, none⟩)) ↔ (M j u ∨ ∃ m ∈ x :: r, m.op = j ∧ u = .pointer (some ⟨gs j, 0, none⟩)) := fun j u => by
      constructor
      · rintro ((h | ⟨rfl, rfl⟩) | ⟨m, hm, rfl, rfl⟩)
        · exact .inl h
        · exact .inr ⟨x, List.mem_cons_self .., rfl, rfl⟩
        · exact .inr ⟨m, List.mem_cons_of_mem _ hm, rfl, rfl⟩
      · rintro (h | ⟨m, hm, rfl, rfl⟩)
        · exact .inl (.inl h)
        · rcases List.mem_cons.1 hm with rfl | hm
          · exact .inl (.inr ⟨rfl, rfl⟩)
          · exact .inr ⟨m, hm, rfl, rfl⟩
    exact ⟨h2.defers, h2.size, fun t j u hm => h2.there t j u ((hiff j u).2 hm), fun t ht => h2.else_ t fun j u hm => ht j u ((hiff j u).1 hm)⟩

/-- Where the region stands. -/
structure Stands (ops : Array Oper) (S : World → Prop) (B : Nat) (vs : List (Nat × Value)) (made : List Made) (late : List Nat) (a0 : Act) (gs : Nat → Nat) (L : Array Bool) (a : Act) (w : World) : Prop where
  has : Has ops a0 (fun j u => L.getD j false = true ∧ ((j, u) ∈ vs ∨ ∃ m ∈ made, m.op = j ∧ u = .pointer (some ⟨gs j, 0, none⟩))) a
  met : S w
  rows : ∀ m ∈ made, L.getD m.op false = true → B ≤ gs m.op ∧ Row w (gs m.op) m.T m.z
  apart : ∀ m ∈ made, ∀ m' ∈ made, L.getD m.op false = true → L.getD m'.op false = true → m.op ≠ m'.op → gs m.op ≠ gs m'.op
  late : ∀ s ∈ late, L.getD s true = false
  size : L.size = ops.size
  down : ∀ i o, ops[i]? = some o → L.getD i false = true → ∀ e ∈ o.after, Region.binds .any e = true → L.getD e.on false = true

theorem getD_tf {L : Array Bool} {i : Nat} (h : i < L.size) : L.getD i true = L.getD i false := by simp [h]

theorem flat_all {B : Nat} {vs : List (Nat × Value)} {made : List Made} {late : List Nat} {a0 aD : Act} {n : Nat}
    (hD : Dets P ops S vs a0 aD) (hA : ∀ m ∈ made, AllocOp P ops m) (hk1 : detsOk ops (made.map (·.op)) (vs.map (·.1)) = true) (hk2 : allocsOk ops (made.map (·.op)) = true)
    (hk3 : lateOk ops (vs.map (·.1) ++ made.map (·.op)) late = true) (hk4 : dstsIn ops a0.tmps.size = true) (hns : Region.noSelect ops = true) (hn : cnt ops (lateL ops late) = n)
    (hSB : ∀ w w', S w → Below w.heap.size w w' → S w') (hB : ∀ w, S w → B ≤ w.heap.size)
    (hend : ∀ (gs : Nat → Nat) w, S w → (∀ m ∈ made, B ≤ gs m.op ∧ Row w (gs m.op) m.T m.z) → (∀ m ∈ made, ∀ m' ∈ made, m.op ≠ m'.op → gs m.op ≠ gs m'.op) →
      wpAny P .any ops Q n (lateL ops late) (putMade ops gs made aD) w) :
    ∀ (fuel : Nat) (L : Array Bool) (a : Act) (w : World) (gs : Nat → Nat), Stands ops S B vs made late a0 gs L a w → cnt ops L ≤ fuel → wpAny P .any ops Q fuel L a w := by
  have hall := hD.all (a0 := a0) (M := fun _ _ => False) (Has.start a0) hk1 (fun _ _ _ _ _ h => h.elim) (fun _ _ _ _ h => h.elim) (fun _ _ _ _ h => h.elim)
  obtain ⟨hHD, hstep⟩ := hall
  simp only [lateOk, Bool.and_eq_true, List.all_eq_true, List.mem_range] at hk3
  obtain ⟨⟨⟨hcov, hord⟩, hlt⟩, hlate⟩ := hk3
  have hord' : ∀ i o, ops[i]? = some o → ∀ e ∈ o.after, Region.binds .any e = true → e.on < i := fun i o ho e he hb => by
    have h1 := hord i (Array.getElem?_eq_some_iff.1 ho).1
    simp only [ho, Option.map_some, Option.getD_some, Array.all_eq_true_iff_forall_mem] at h1
    have h2 := h1 e he
    simpa [hb] using h2
  have hlt' : ∀ i ∈ vs.map (·.1) ++ made.map (·.op), i < ops.size := fun i hi => by simpa using hlt i hi
  -- all but the late ones are listed
  have hdone : ∀ (L : Array Bool) (a : Act) (w : World) (gs : Nat → Nat) (fuel : Nat), Stands ops S B vs made late a0 gs L a w → (∀ x ∈ vs.map (·.1) ++ made.map (·.op), L.getD x false = true) → cnt ops L ≤ fuel → wpAny P .any ops Q fuel L a w := by
    intro L a w gs fuel hI hfull hc
    have hL : L = lateL ops late := by
      refine Array.ext_getElem? fun i => ?_
      rcases Nat.lt_or_ge i ops.size with hi | hi
      · have h1 := hcov i hi
        simp only [bne_iff_ne, ne_eq] at h1
        have h2 : L.getD i true = !late.contains i := by
          cases hc : late.contains i with
          | true => exact hI.late i (by simpa using hc)
          | false =>
            have he : (vs.map (·.1) ++ made.map (·.op)).contains i = true := by
              cases h3 : (vs.map (·.1) ++ made.map (·.op)).contains i with
              | true => rfl
              | false => exact absurd (h3.trans hc.symm) h1
            rw [getD_tf (by rw [hI.size]; exact hi)]
            exact hfull i (List.contains_iff_mem.1 he)
        have h4 : i < L.size := by rw [hI.size]; exact hi
        simp only [Array.getD_eq_getD_getElem?, Array.getElem?_eq_getElem h4, Option.getD_some] at h2
        rw [Array.getElem?_eq_getElem h4, h2]
        simp [lateL, hi]
      · rw [Array.getElem?_eq_none (by rw [hI.size]; exact hi), Array.getElem?_eq_none (by simp [lateL]; exact hi)]
    have hin : ∀ m ∈ made, L.getD m.op false = true := fun m hm => hfull _ (List.mem_append_right _ (List.mem_map.2 ⟨m, hm, rfl⟩))
    have hrun := hend gs w hI.met (fun m hm => hI.rows m hm (hin m hm)) (fun m hm m' hm' hne => hI.apart m hm m' hm' (hin m hm) (hin m' hm') hne)
    have hfin : Has ops a0 (fun j u => (False ∨ (j, u) ∈ vs) ∨ ∃ m ∈ made, m.op = j ∧ u = .pointer (some ⟨gs j, 0, none⟩)) (putMade ops gs made aD) :=
      hHD.made hk2 fun j u t hj m hm ht => by
        have := detsOk_allocs hk1 j (List.mem_map.2 ⟨(j, u), hj.resolve_left id, rfl⟩) m.op (List.mem_map.2 ⟨m, hm, rfl⟩)
        intro e
        exact dstsApart_of this.2.1 e ht
    have hiff : ∀ j u, (L.getD j false = true ∧ ((j, u) ∈ vs ∨ ∃ m ∈ made, m.op = j ∧ u = .pointer (some ⟨gs j, 0, none⟩))) ↔ ((False ∨ (j, u) ∈ vs) ∨ ∃ m ∈ made, m.op = j ∧ u = .pointer (some ⟨gs j, 0, none⟩)) := fun j u => by
      rw [false_or]
      refine ⟨fun h => h.2, fun h => ⟨?_, h⟩⟩
      rcases h with h | ⟨m, hm, rfl, _⟩
      · exact hfull j (List.mem_append_left _ (List.mem_map.2 ⟨(j, u), h, rfl⟩))
      · exact hin m hm
    have ha : a = putMade ops gs made aD := by
      have h1 := hI.has
      exact Has.eq (M := fun j u => (False ∨ (j, u) ∈ vs) ∨ ∃ m ∈ made, m.op = j ∧ u = .pointer (some ⟨gs j, 0, none⟩))
        ⟨h1.defers, h1.size, fun t j u hm => h1.there t j u ((hiff j u).2 hm), fun t ht => h1.else_ t fun j u hm => ht j u ((hiff j u).1 hm)⟩ hfin
    subst hL
    rw [ha]
    exact wpAny_le (by omega) hrun
  have hnotdone : ∀ (L : Array Bool), L.size = ops.size → ¬ (∀ x ∈ vs.map (·.1) ++ made.map (·.op), L.getD x false = true) → ∃ x, x < ops.size ∧ L.getD x true = false := by
    intro L hs hfull
    obtain ⟨x, hx⟩ := Classical.not_forall.mp hfull
    obtain ⟨hx, hf⟩ := Classical.not_imp.mp hx
    have h1 := hlt' x hx
    exact ⟨x, h1, by rw [getD_tf (by rw [hs]; exact h1)]; simpa using hf⟩
  have hready : ∀ (L : Array Bool), L.size = ops.size → ∀ x, x < ops.size → L.getD x true = false → Region.ready .any ops L ≠ [] := by
    intro L hs x
    induction x using Nat.strongRecOn with
    | _ x ihx =>
      intro hx hu hnil
      by_cases hr : ∀ e ∈ (ops[x]'hx).after, Region.binds .any e = true → L.getD e.on false = true
      · have : x ∈ Region.ready .any ops L := mem_ready.2 ⟨hu, ops[x], Array.getElem?_eq_getElem hx, hr⟩
        rw [hnil] at this
        cases this
      · obtain ⟨e, he⟩ := Classical.not_forall.mp hr
        obtain ⟨he, hb⟩ := Classical.not_imp.mp he
        obtain ⟨hb, hf⟩ := Classical.not_imp.mp hb
        have h1 := hord' x _ (Array.getElem?_eq_getElem hx) e he hb
        have h2 : e.on < ops.size := by omega
        exact ihx e.on h1 h2 (by rw [getD_tf (by rw [hs]; exact h2)]; simpa using hf) hnil
  intro fuel
  induction fuel with
  | zero =>
    intro L a w gs hI hc
    by_cases hfull : ∀ x ∈ vs.map (·.1) ++ made.map (·.op), L.getD x false = true
    · exact hdone L a w gs 0 hI hfull hc
    · obtain ⟨x, h1, h2⟩ := hnotdone L hI.size hfull
      have := cnt_pos h1 h2
      omega
  | succ fuel ih =>
    intro L a w gs hI hc
    by_cases hfull : ∀ x ∈ vs.map (·.1) ++ made.map (·.op), L.getD x false = true
    · exact hdone L a w gs (fuel + 1) hI hfull hc
    obtain ⟨x0, hx0, hu0⟩ := hnotdone L hI.size hfull
    refine ⟨fun h => absurd h (hready L hI.size x0 hx0 hu0), fun i hi => ?_⟩
    obtain ⟨hun, o, ho, hwait⟩ := mem_ready.1 hi
    have hisz : i < ops.size := (Array.getElem?_eq_some_iff.1 ho).1
    have hiL : i < L.size := by rw [hI.size]; exact hisz
    have hunf : L.getD i false = false := by rw [← getD_tf hiL]; exact hun
    have hdo : dstOf ops i = o.dst := by simp [dstOf, ho]
    -- it is none of the late ones
    have hnl : i ∉ late := by
      intro hl
      refine hfull ?_
      have hdown : ∀ k x, ops.size ≤ x + k → x ∈ vs.map (·.1) ++ made.map (·.op) → L.getD x false = true := by
        intro k
        induction k with
        | zero => intro x hk hx; have := hlt' x hx; omega
        | succ k ihk =>
          intro x hk hx
          have h1 := hlate i hl x hx
          rcases Bool.or_eq_true_iff.1 h1 with h1 | h1
          · obtain ⟨e, he, hb, rfl⟩ := waits_spec ho h1
            exact hwait e he hb
          · obtain ⟨y, hy, h2⟩ := List.any_eq_true.1 h1
            simp only [Bool.and_eq_true, decide_eq_true_eq] at h2
            have hyL := ihk y (by omega) hy
            have hys := hlt' y hy
            obtain ⟨e, he, hb, rfl⟩ := waits_spec (Array.getElem?_eq_getElem hys) h2.2
            exact hI.down y _ (Array.getElem?_eq_getElem hys) hyL e he hb
      exact fun x hx => hdown ops.size x (by omega) hx
    have hie : i ∈ vs.map (·.1) ++ made.map (·.op) := by
      have h1 := hcov i hisz
      simp only [bne_iff_ne, ne_eq] at h1
      have h2 : late.contains i = false := by simpa using hnl
      rw [h2] at h1
      cases h3 : (vs.map (·.1) ++ made.map (·.op)).contains i with
      | true => exact List.contains_iff_mem.1 h3
      | false => exact absurd h3 h1
    have hset : ∀ j, (L.setIfInBounds i true).getD j false = true ↔ L.getD j false = true ∨ j = i := fun j => by
      by_cases e : j = i
      · subst e; simp [hiL]
      · rw [getD_set_ne false (Ne.symm e)]; simp [e]
    have hlate' : ∀ s ∈ late, (L.setIfInBounds i true).getD s true = false := fun s hs => by
      have hne : i ≠ s := fun e => hnl (by rw [e]; exact hs)
      rw [getD_set_ne true hne]
      exact hI.late s hs
    have hdown' : ∀ j oj, ops[j]? = some oj → (L.setIfInBounds i true).getD j false = true → ∀ e ∈ oj.after, Region.binds .any e = true → (L.setIfInBounds i true).getD e.on false = true := fun j oj hoj hj e he hb => by
      rw [hset] at hj ⊢
      rcases hj with hj | rfl
      · exact .inl (hI.down j oj hoj hj e he hb)
      · rw [ho] at hoj; cases hoj
        exact .inl (hwait e he hb)
    have hcnt : cnt ops (L.setIfInBounds i true) ≤ fuel := by
      have := cnt_set hisz hun hI.size
      omega
    -- the values that stand are those of others
    have hothers : ∀ j u t, (L.getD j false = true ∧ ((j, u) ∈ vs ∨ ∃ m ∈ made, m.op = j ∧ u = .pointer (some ⟨gs j, 0, none⟩))) → dstOf ops i = some t → dstOf ops j ≠ some t := by
      intro j u t ⟨hj, hju⟩ ht
      have hne : j ≠ i := fun e => by rw [e, hunf] at hj; cases hj
      rcases List.mem_append.1 hie with hiv | him
      · rcases hju with hv | ⟨m, hm, rfl, _⟩
        · exact detsOk_apart hk1 i hiv j (List.mem_map.2 ⟨(j, u), hv, rfl⟩) (Ne.symm hne) t ht
        · exact dstsApart_of (detsOk_allocs hk1 i hiv m.op (List.mem_map.2 ⟨m, hm, rfl⟩)).2.1 ht
      · rcases hju with hv | ⟨m, hm, rfl, _⟩
        · intro e
          exact dstsApart_of (detsOk_allocs hk1 j (List.mem_map.2 ⟨(j, u), hv, rfl⟩) i him).2.1 e ht
        · exact allocsOk_apart hk2 i him m.op (List.mem_map.2 ⟨m, hm, rfl⟩) (Ne.symm hne) t ht
    unfold wpOp
    simp only [ho]
    rcases List.mem_append.1 hie with hiv | him
    · -- an operation that gives its value
      obtain ⟨⟨i', v⟩, hiv', rfl⟩ := List.mem_map.1 hiv
      simp only at *
      obtain ⟨o', ai, N, ho', hg, hN, hN1, hN2, hN3⟩ := hstep i' v hiv'
      rw [ho] at ho'
      cases ho'
      have hsame : ∀ t, t ∈ o.looksAt ops → a.tmps[t]? = ai.tmps[t]? := by
        intro t ht
        refine hI.has.congr hN ?_
        by_cases he : ∃ j u, N j u ∧ dstOf ops j = some t
        · obtain ⟨j, u, hnj, hj⟩ := he
          have hw := hN2 j u hnj (dstSeen_of ho ht hj)
          obtain ⟨e, he, hb, rfl⟩ := waits_spec ho hw
          exact .inl ⟨_, u, ⟨hwait e he hb, .inl ((hN1 _ u hnj).resolve_left id)⟩, hnj, hj⟩
        · have hno : ∀ j u, N j u → dstOf ops j ≠ some t := fun j u hm hj => he ⟨j, u, hm, hj⟩
          refine .inr ⟨fun j u hm hj => ?_, hno⟩
          obtain ⟨hjL, hju⟩ := hm
          have hsn := dstSeen_of ho ht hj
          rcases hju with hv | ⟨m, hm, rfl, _⟩
          · rcases hN3 j u (.inr hv) hsn with h | h
            · exact hno j u h hj
            · have hjs : j < ops.size := hlt' j (List.mem_append_left _ (List.mem_map.2 ⟨(j, u), hv, rfl⟩))
              obtain ⟨e, he, hb, h1⟩ := waits_spec (Array.getElem?_eq_getElem hjs) h
              have := hI.down j _ (Array.getElem?_eq_getElem hjs) hjL e he hb
              rw [h1, hunf] at this
              cases this
          · have := (detsOk_allocs hk1 i' hiv m.op (List.mem_map.2 ⟨m, hm, rfl⟩)).2.2
            rw [hsn] at this
            cases this
      have hhas : Has ops a0 (fun j u => (L.setIfInBounds i' true).getD j false = true ∧ ((j, u) ∈ vs ∨ ∃ m ∈ made, m.op = j ∧ u = .pointer (some ⟨gs j, 0, none⟩))) (a.put o.dst v) := by
        refine hdo ▸ hI.has.put hothers fun j u => ?_
        rw [hset]
        constructor
        · rintro ⟨hj | rfl, hju⟩
          · exact .inl ⟨hj, hju⟩
          · rcases hju with hv | ⟨m, hm, he, _⟩
            · exact .inr ⟨rfl, detsOk_unique hk1 hv hiv'⟩
            · exact absurd he (detsOk_allocs hk1 j hiv m.op (List.mem_map.2 ⟨m, hm, rfl⟩)).1
        · rintro (⟨hj, hju⟩ | ⟨rfl, rfl⟩)
          · exact ⟨.inl hj, hju⟩
          · exact ⟨.inr rfl, .inl hiv'⟩
      have hmk : ∀ m ∈ made, m.op ≠ i' := fun m hm => (detsOk_allocs hk1 i' hiv m.op (List.mem_map.2 ⟨m, hm, rfl⟩)).1
      have hnext : ∀ w', Below w.heap.size w w' → wpAny P .any ops Q fuel (L.setIfInBounds i' true) (a.put o.dst v) w' := fun w' hb => by
        refine ih _ _ w' gs ⟨hhas, hSB w w' hI.met hb, fun m hm hj => ?_, fun m hm m' hm' hj hj' => ?_, hlate', by simp [hI.size], hdown'⟩ hcnt
        · have h1 := ((hset _).1 hj).resolve_right (hmk m hm)
          exact ⟨(hI.rows m hm h1).1, (hI.rows m hm h1).2.belowAll hb⟩
        · exact hI.apart m hm m' hm' (((hset _).1 hj).resolve_right (hmk m hm)) (((hset _).1 hj').resolve_right (hmk m' hm'))
      rw [wanted_same hsame]
      rcases hg with ⟨hw, hg⟩ | ⟨hw, rfl⟩
      · rw [if_pos hw]
        refine .inl ?_
        have hd : ∀ d, o.dst = some d → d < ai.tmps.size := fun d hd => by
          have h1 := (List.all_eq_true.1 hk4) i' (List.mem_range.2 hisz)
          rw [hdo, hd] at h1
          rw [hN.size]
          simpa using h1
        refine Oper.wp_mono (fun a' w' h => ?_) (hg.wp (Q := Q) (exec_same (Region.noSelect_spec hns i' o · · ho) hsame) hd hI.met)
        obtain ⟨rfl, hb⟩ := h
        exact hnext w' hb
      · rw [if_neg (by rw [hw]; decide)]
        exact hnext w (Below.refl _ _)
    · -- a new variable
      obtain ⟨m, hm, rfl⟩ := List.mem_map.1 him
      obtain ⟨o', ho', hgd, hrun⟩ := hA m hm
      rw [ho] at ho'
      cases ho'
      have hw : Region.wanted o (yielded ops a.tmps) = true := by simp [Region.wanted, hgd]
      rw [if_pos hw]
      refine .inl ?_
      unfold Oper.wp
      rw [hrun]
      show wpAny P .any ops Q fuel (L.setIfInBounds m.op true) (a.put o.dst (.pointer (some ⟨w.heap.size, 0, none⟩))) (w.alloc (.cells m.z.toArray m.T))
      have hb : Below w.heap.size w (w.alloc (.cells m.z.toArray m.T)) := (Below.refl _ _).alloc (Nat.le_refl _) _
      have hgs : ∀ j, j ≠ m.op → (fun j => if j = m.op then w.heap.size else gs j) j = gs j := fun j hj => if_neg hj
      have hne : ∀ j, L.getD j false = true → j ≠ m.op := fun j hj e => by rw [e, hunf] at hj; cases hj
      refine ih _ _ _ (fun j => if j = m.op then w.heap.size else gs j) ⟨?_, hSB w _ hI.met hb, fun m' hm' hj => ?_, fun m' hm' m'' hm'' hj hj' hnn => ?_, hlate', by simp [hI.size], hdown'⟩ hcnt
      · refine hdo ▸ hI.has.put hothers fun j u => ?_
        rw [hset]
        constructor
        · rintro ⟨hj | rfl, hju⟩
          · left
            refine ⟨hj, ?_⟩
            rcases hju with hv | ⟨m', hm', rfl, he⟩
            · exact .inl hv
            · simp only [if_neg (hne _ hj)] at he
              exact .inr ⟨m', hm', rfl, he⟩
          · right
            refine ⟨rfl, ?_⟩
            rcases hju with hv | ⟨m', hm', he0, he⟩
            · exact absurd rfl (detsOk_allocs hk1 m.op (List.mem_map.2 ⟨(m.op, u), hv, rfl⟩) m.op him).1
            · simpa using he
        · rintro (⟨hj, hju⟩ | ⟨rfl, rfl⟩)
          · refine ⟨.inl hj, ?_⟩
            rcases hju with hv | ⟨m', hm', rfl, he⟩
            · exact .inl hv
            · exact .inr ⟨m', hm', rfl, by simp only [if_neg (hne _ hj)]; exact he⟩
          · exact ⟨.inr rfl, .inr ⟨m, hm, rfl, by simp⟩⟩
      · rcases (hset _).1 hj with h1 | h1
        · simp only [if_neg (hne _ h1)]
          exact ⟨(hI.rows m' hm' h1).1, (hI.rows m' hm' h1).2.belowAll hb⟩
        · obtain rfl := allocsOk_unique hk2 m' hm' m hm h1
          simp only [if_true]
          exact ⟨hB w hI.met, Row.new w _ _⟩
      · rcases (hset _).1 hj with h1 | h1 <;> rcases (hset _).1 hj' with h2 | h2
        · simp only [if_neg (hne _ h1), if_neg (hne _ h2)]
          exact hI.apart m' hm' m'' hm'' h1 h2 hnn
        · simp only [if_neg (hne _ h1), h2, if_true]
          have := (hI.rows m' hm' h1).2.lt
          omega
        · simp only [if_neg (hne _ h2), h1, if_true]
          have := (hI.rows m'' hm'' h2).2.lt
          omega
        · exact absurd (h1.trans h2.symm) hnn

/-- A region that draws its order: what it does, whatever the order. -/
theorem wp_flat {id : Nat} {B : Nat} {vs : List (Nat × Value)} {made : List Made} {late : List Nat} {a0 aD : Act} {w0 : World} {n : Nat} (hm : P.follows .mixedOrders = true) (hS : S w0.drew)
    (hD : Dets P ops S vs a0 aD) (hA : ∀ m ∈ made, AllocOp P ops m) (hk1 : detsOk ops (made.map (·.op)) (vs.map (·.1)) = true) (hk2 : allocsOk ops (made.map (·.op)) = true)
    (hk3 : lateOk ops (vs.map (·.1) ++ made.map (·.op)) late = true) (hk4 : dstsIn ops a0.tmps.size = true) (hns : Region.noSelect ops = true) (hn : cnt ops (lateL ops late) = n) (hk5 : late.all (fun s => decide (s < ops.size)) = true)
    (hSB : ∀ w w', S w → Below w.heap.size w w' → S w') (hB : ∀ w, S w → B ≤ w.heap.size)
    (hend : ∀ (gs : Nat → Nat) w, S w → (∀ m ∈ made, B ≤ gs m.op ∧ Row w (gs m.op) m.T m.z) → (∀ m ∈ made, ∀ m' ∈ made, m.op ≠ m'.op → gs m.op ≠ gs m'.op) →
      wpAny P .any ops Q n (lateL ops late) (putMade ops gs made aD) w) : (Code.region id ops true).wp P Q a0 w0 := by
  refine wp_region_any hm ?_
  have hnone : ∀ j, (Array.replicate ops.size false).getD j false = false := fun j => by
    by_cases h : j < ops.size <;> simp [h]
  refine flat_all hD hA hk1 hk2 hk3 hk4 hns hn hSB hB hend ops.size _ a0 _ (fun _ => 0) ⟨?_, hS, fun m _ h => ?_, fun m _ m' _ h => ?_, fun s hs => ?_, by simp, fun i o _ h => ?_⟩ ?_
  · exact ⟨rfl, rfl, fun t j u h => (by rw [hnone] at h; cases h.1), fun _ _ => rfl⟩
  · rw [hnone] at h; cases h
  · rw [hnone] at h; cases h
  · have h1 := (List.all_eq_true.1 hk5) s hs
    have h2 : s < ops.size := by simpa using h1
    simp [h2]
  · rw [hnone] at h; cases h
  · unfold cnt
    exact Nat.le_trans List.countP_le_length (by simp)

/-- The same, where nothing is new and nothing late. -/
theorem wp_flat_none {id : Nat} {vs : List (Nat × Value)} {a0 aD : Act} {w0 : World} (hm : P.follows .mixedOrders = true) (hS : S w0.drew) (hSB : ∀ w w', S w → Below w.heap.size w w' → S w')
    (hD : Dets P ops S vs a0 aD) (hk : (detsOk ops [] (vs.map (·.1)) && lateOk ops (vs.map (·.1)) [] && dstsIn ops a0.tmps.size && Region.noSelect ops) = true)
    (hend : ∀ w, S w → Q .normal aD w) : (Code.region id ops true).wp P Q a0 w0 := by
  simp only [Bool.and_eq_true] at hk
  obtain ⟨⟨⟨k1, k3⟩, k4⟩, k5⟩ := hk
  refine wp_flat (B := 0) (made := []) (late := []) hm hS hD (fun m h => by cases h) k1 rfl (by simpa using k3) k4 k5 rfl rfl hSB (fun _ _ => Nat.zero_le _) fun gs w hS' _ _ => ?_
  have hr : Region.ready .any ops (lateL ops []) = [] := by
    refine List.eq_nil_iff_forall_not_mem.2 fun i hi => ?_
    obtain ⟨h1, o, ho, _⟩ := mem_ready.1 hi
    have h2 : i < ops.size := (Array.getElem?_eq_some_iff.1 ho).1
    simp [lateL, h2] at h1
  exact wpAny_le (Nat.zero_le _) ⟨hr, hend w hS'⟩

theorem all_listed {s : Nat} : Region.ready .any ops ((lateL ops [s]).setIfInBounds s true) = [] := by
  refine List.eq_nil_iff_forall_not_mem.2 fun i hi => ?_
  obtain ⟨h1, o, ho, _⟩ := mem_ready.1 hi
  have h2 : i < ops.size := (Array.getElem?_eq_some_iff.1 ho).1
  by_cases e : s = i
  · subst e
    simp [lateL, h2] at h1
  · rw [getD_set_ne true e] at h1
    have e' : ¬ i = s := fun x => e x.symm
    simp [lateL, h2, e'] at h1
theorem wpAny_late {s : Nat} {os : Oper} {a : Act} {w : World} (hr : Region.ready .any ops (lateL ops [s]) = [s]) (hos : ops[s]? = some os) (hgd : os.guard = none)
    (h : os.wp P a w (fun a' w' => Q .normal a' w') Q) : wpAny P .any ops Q 1 (lateL ops [s]) a w := by
  refine ⟨fun e => (by rw [hr] at e; cases e), fun i hi => ?_⟩
  rw [hr] at hi
  obtain rfl := List.mem_singleton.1 hi
  unfold wpOp
  simp only [hos]
  rw [if_pos (by simp [Region.wanted, hgd])]
  exact .inl (Oper.wp_mono (fun a' w' h' => ⟨all_listed, h'⟩) h)

/-- The same, where one operation, at the end, waits for all others. -/
theorem wp_flat_late {id : Nat} {vs : List (Nat × Value)} {a0 aD : Act} {w0 : World} {s : Nat} {os : Oper} (hm : P.follows .mixedOrders = true) (hS : S w0.drew) (hSB : ∀ w w', S w → Below w.heap.size w w' → S w')
    (hD : Dets P ops S vs a0 aD) (hk : (detsOk ops [] (vs.map (·.1)) && lateOk ops (vs.map (·.1)) [s] && dstsIn ops a0.tmps.size && Region.noSelect ops && (cnt ops (lateL ops [s]) == 1) && (Region.ready .any ops (lateL ops [s]) == [s])) = true)
    (hos : ops[s]? = some os) (hgd : os.guard = none) (hend : ∀ w, S w → os.wp P aD w (fun a' w' => Q .normal a' w') Q) : (Code.region id ops true).wp P Q a0 w0 := by
  simp only [Bool.and_eq_true, beq_iff_eq] at hk
  obtain ⟨⟨⟨⟨⟨k1, k3⟩, k4⟩, k5⟩, k6⟩, k7⟩ := hk
  have hsz : s < ops.size := (Array.getElem?_eq_some_iff.1 hos).1
  exact wp_flat (B := 0) (made := []) (late := [s]) hm hS hD (fun m h => by cases h) k1 rfl (by simpa using k3) k4 k5 k6 (by simpa using hsz) hSB (fun _ _ => Nat.zero_le _) fun gs w hS' _ _ => wpAny_late k7 hos hgd (hend w hS')

/-- The same, where one variable is new, and one operation, at the end, waits for all others. -/
theorem wp_flat_new {id : Nat} {B : Nat} {vs : List (Nat × Value)} {a0 aD : Act} {w0 : World} {k s : Nat} {os : Oper} {T : TypeId} {z : List Value} (hm : P.follows .mixedOrders = true) (hS : S w0.drew) (hSB : ∀ w w', S w → Below w.heap.size w w' → S w') (hB : ∀ w, S w → B ≤ w.heap.size)
    (hD : Dets P ops S vs a0 aD) (hA : AllocOp P ops ⟨k, T, z⟩)
    (hk : (detsOk ops [k] (vs.map (·.1)) && lateOk ops (vs.map (·.1) ++ [k]) [s] && dstsIn ops a0.tmps.size && Region.noSelect ops && (cnt ops (lateL ops [s]) == 1) && (Region.ready .any ops (lateL ops [s]) == [s])) = true)
    (hos : ops[s]? = some os) (hgd : os.guard = none) (hend : ∀ g w, S w → B ≤ g → Row w g T z → os.wp P (aD.put (dstOf ops k) (.pointer (some ⟨g, 0, none⟩))) w (fun a' w' => Q .normal a' w') Q) : (Code.region id ops true).wp P Q a0 w0 := by
  simp only [Bool.and_eq_true, beq_iff_eq] at hk
  obtain ⟨⟨⟨⟨⟨k1, k3⟩, k4⟩, k5⟩, k6⟩, k7⟩ := hk
  have hsz : s < ops.size := (Array.getElem?_eq_some_iff.1 hos).1
  refine wp_flat (B := B) (made := [⟨k, T, z⟩]) (late := [s]) hm hS hD (fun m h => by rw [List.mem_singleton.1 h]; exact hA) k1 rfl k3 k4 k5 k6 (by simpa using hsz) hSB hB fun gs w hS' hrows _ => ?_
  have h1 := hrows ⟨k, T, z⟩ (List.mem_singleton.2 rfl)
  exact wpAny_late k7 hos hgd (hend _ w hS' h1.1 h1.2)

/-- A value of one part. -/
theorem exec_build1 {o : Oper} {a : Act} {w : World} (T : TypeId) (x : Operand) (ho : o.op = .build T #[(0, x)]) (u v : Value) (hx : a.eval x = u) (hrun : (Instr.build T #[(0, u)]).run P w = .ok v w) :
    (execOp a.eval o).run P w = .ok (.value v) w := by
  unfold execOp
  simp only [ho, Sem.run_bind, Sem.run_pure, List.map_toArray, List.map_cons, List.map_nil, hx, hrun, Result.andThen_ok]
theorem wpList_build1 {rest : List Oper} {o : Oper} {a : Act} {w : World} (hgd : o.guard = none) (T : TypeId) (x : Operand) (ho : o.op = .build T #[(0, x)]) (u v : Value) (hx : a.eval x = u)
    (hrun : (Instr.build T #[(0, u)]).run P w = .ok v w) (h : wpList P ops Q rest (a.put o.dst v) w) : wpList P ops Q (o :: rest) a w := by
  refine wpList_plain hgd fun _ hK => ?_
  unfold Oper.wp
  rw [exec_build1 T x ho u v hx hrun]
  exact hK _ _ h
theorem wp_build1 {o : Oper} {a : Act} {w : World} {K : Act → World → Prop} (T : TypeId) (x : Operand) (ho : o.op = .build T #[(0, x)]) (u v : Value) (hx : a.eval x = u)
    (hrun : (Instr.build T #[(0, u)]).run P w = .ok v w) (h : K (a.put o.dst v) w) : o.wp P a w K Q := by
  unfold Oper.wp
  rw [exec_build1 T x ho u v hx hrun]
  exact h

end
end

end Go.Proofs.YtmiadkhfjkaidaaGreatDoor
