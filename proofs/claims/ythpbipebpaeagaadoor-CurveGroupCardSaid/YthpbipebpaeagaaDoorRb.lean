/- Regions that draw their order, in which one operation makes what only a condition tells (a new slice, say), and whoever looks at it gives what hangs on that condition alone. Over any program. Points' bytes are read back; the document's Base; the law's two. The program's Sum of points. -/
import Derived.Test.YthpbipebpaeagaaDoorGives
import Derived.Test.YthpbipebpaeagaaDoorRs
namespace Go.Proofs.YthpbipebpaeagaaDoor
section
open Go.RowKit

section
variable {P : Program} {ops : Array Oper} {Q : Exit → Act → World → Prop} {S : World → Prop} {R : Nat → World → Prop} {val : Nat → Value} {k : Nat}

/-- In state a, in each world that meets S, operation o leaves one of these values, of which R holds then. -/
def Makes (P : Program) (S : World → Prop) (R : Nat → World → Prop) (val : Nat → Value) (o : Oper) (a : Act) : Prop :=
  ∀ w, S w → ∀ K : Act → World → Prop, (∀ g w', Below w.heap.size w w' → R g w' → K (a.put o.dst (val g)) w') → o.wp P a w K (fun _ _ _ => False)

theorem Makes.wp {o : Oper} {a a' : Act} (h : Makes P S R val o a) (he : execOp a'.eval o = execOp a.eval o) (hs : ∀ d, o.dst = some d → d < a.tmps.size) {w : World} (hS : S w) :
    o.wp P a' w (fun a'' w' => ∃ g, a'' = a'.put o.dst (val g) ∧ Below w.heap.size w w' ∧ R g w') Q := by
  have h1 := h w hS (fun a'' w' => ∃ g, a'' = a.put o.dst (val g) ∧ Below w.heap.size w w' ∧ R g w') (fun g w' hb hr => ⟨g, rfl, hb, hr⟩)
  unfold Oper.wp at *
  rw [he]
  generalize (execOp a.eval o).run P w = r at *
  cases r with
  | ok n w' =>
    cases n <;> simp only [Oper.upon] at h1 ⊢
    case value u => exact h1.imp fun g h => ⟨put_same hs h.1, h.2⟩
    case skip => exact h1.imp fun g h => ⟨put_same hs h.1, h.2⟩
    case defer d =>
      exfalso
      obtain ⟨g, h1, _⟩ := h1
      have h2 := congrArg (fun b : Act => b.defers.length) h1
      cases hd : o.dst <;> simp [Act.put, hd] at h2
    case enter f args =>
      refine Calls.mono h1 fun e w'' he => ?_
      cases e with
      | returned u => exact he.imp fun g h => ⟨put_same hs h.1, h.2⟩
      | panicked c => exact he.elim
      | outgrown => obtain ⟨_, _, hf⟩ := he; exact hf.elim
    case row row args => exact Rows.mono h1 fun u w'' he => he.imp fun g h => ⟨put_same hs h.1, h.2⟩
  | halt x w' =>
    cases x <;> simp only [Oper.upon] at h1 ⊢

/-- What one operation asks, in its own state. -/
def GAt (P : Program) (ops : Array Oper) (S : World → Prop) (R : Nat → World → Prop) (val : Nat → Value) (k g i : Nat) (o : Oper) (v : Value) (a : Act) : Prop :=
  (Region.wanted o (yielded ops a.tmps) = true ∧ ((i = k ∧ v = val g ∧ Makes P S R val o a) ∨ (i ≠ k ∧ Gives P S o v a) ∨ (i ≠ k ∧ waits ops i k = true ∧ Gives P (fun w => S w ∧ R g w) o v a))) ∨ (i ≠ k ∧ Region.wanted o (yielded ops a.tmps) = false ∧ v = undef)
inductive DetsK (P : Program) (ops : Array Oper) (S : World → Prop) (R : Nat → World → Prop) (val : Nat → Value) (k g : Nat) : List (Nat × Value) → Act → Act → Prop
  | nil {a : Act} : DetsK P ops S R val k g [] a a
  | cons {i : Nat} {o : Oper} {v : Value} {vs : List (Nat × Value)} {a b : Act} (ho : ops[i]? = some o) (hg : GAt P ops S R val k g i o v a)
      (hr : DetsK P ops S R val k g vs (a.put o.dst v) b) : DetsK P ops S R val k g ((i, v) :: vs) a b
theorem DetsK.step {g i : Nat} {o : Oper} {v : Value} {vs : List (Nat × Value)} {a b : Act} (d : Option Tmp) (ho : ops[i]? = some o) (hd : o.dst = d) (hw : Region.wanted o (yielded ops a.tmps) = true) (hi : i ≠ k) (hg : Gives P S o v a)
    (hr : DetsK P ops S R val k g vs (a.put d v) b) : DetsK P ops S R val k g ((i, v) :: vs) a b := .cons ho (.inl ⟨hw, .inr (.inl ⟨hi, hg⟩)⟩) (by rw [hd]; exact hr)
theorem DetsK.stepSkip {g i : Nat} {o : Oper} {vs : List (Nat × Value)} {a b : Act} (d : Option Tmp) (ho : ops[i]? = some o) (hd : o.dst = d) (hw : Region.wanted o (yielded ops a.tmps) = false) (hi : i ≠ k)
    (hr : DetsK P ops S R val k g vs (a.put d undef) b) : DetsK P ops S R val k g ((i, undef) :: vs) a b := .cons ho (.inr ⟨hi, hw, rfl⟩) (by rw [hd]; exact hr)
theorem DetsK.stepLook {g i : Nat} {o : Oper} {v : Value} {vs : List (Nat × Value)} {a b : Act} (d : Option Tmp) (ho : ops[i]? = some o) (hd : o.dst = d) (hw : Region.wanted o (yielded ops a.tmps) = true) (hi : i ≠ k) (hwt : waits ops i k = true)
    (hg : Gives P (fun w => S w ∧ R g w) o v a) (hr : DetsK P ops S R val k g vs (a.put d v) b) : DetsK P ops S R val k g ((i, v) :: vs) a b := .cons ho (.inl ⟨hw, .inr (.inr ⟨hi, hwt, hg⟩)⟩) (by rw [hd]; exact hr)
theorem DetsK.stepMake {g : Nat} {o : Oper} {vs : List (Nat × Value)} {a b : Act} (d : Option Tmp) (ho : ops[k]? = some o) (hd : o.dst = d) (hw : Region.wanted o (yielded ops a.tmps) = true) (hg : Makes P S R val o a)
    (hr : DetsK P ops S R val k g vs (a.put d (val g)) b) : DetsK P ops S R val k g ((k, val g) :: vs) a b := .cons ho (.inl ⟨hw, .inl ⟨rfl, rfl, hg⟩⟩) (by rw [hd]; exact hr)

theorem DetsK.all {g : Nat} {a0 : Act} : ∀ {vs : List (Nat × Value)} {a b : Act} {M : Nat → Value → Prop}, DetsK P ops S R val k g vs a b → Has ops a0 M a → detsOk ops [] (vs.map (·.1)) = true →
    (∀ j u i v t, M j u → (i, v) ∈ vs → dstOf ops i = some t → dstOf ops j ≠ some t) → (∀ j u i v, M j u → (i, v) ∈ vs → dstSeen ops j i = true → waits ops i j = true) → (∀ j u i v, M j u → (i, v) ∈ vs → dstSeen ops i j = true → waits ops i j = true) →
    Has ops a0 (fun j u => M j u ∨ (j, u) ∈ vs) b ∧
    ∀ i v, (i, v) ∈ vs → ∃ (o : Oper) (ai : Act) (N : Nat → Value → Prop), ops[i]? = some o ∧ GAt P ops S R val k g i o v ai ∧ Has ops a0 N ai ∧ (∀ j u, N j u → M j u ∨ (j, u) ∈ vs) ∧
      (∀ j u, N j u → dstSeen ops j i = true → waits ops i j = true) ∧ (∀ j u, (M j u ∨ (j, u) ∈ vs) → dstSeen ops j i = true → N j u ∨ waits ops j i = true) := by
  intro vs
  induction vs with
  | nil =>
    intro a b M h hM _ _ _ _
    cases h
    exact ⟨⟨hM.defers, hM.size, fun t j u hm => hM.there t j u (hm.resolve_right (by simp)), fun t ht => hM.else_ t fun j u hm => ht j u (.inl hm)⟩, fun i v h => by cases h⟩
  | cons iv vs ih =>
    intro a b M h hM hok hdst hseen hback
    obtain ⟨i, v⟩ := iv
    obtain ⟨o, ho, hg, hr⟩ : ∃ o, ops[i]? = some o ∧ GAt P ops S R val k g i o v a ∧ DetsK P ops S R val k g vs (a.put o.dst v) b := by
      cases h with
      | cons ho hg hr => exact ⟨_, ho, hg, hr⟩
    have hdo : dstOf ops i = o.dst := by simp [dstOf, ho]
    rw [List.map_cons] at hok
    simp only [detsOk, Bool.and_eq_true, List.all_eq_true] at hok
    obtain ⟨⟨⟨hrest, hself⟩, -⟩, hok'⟩ := hok
    have hrest' : ∀ j u, (j, u) ∈ vs → j ≠ i ∧ dstsApart ops i j = true ∧ (dstSeen ops j i = true → waits ops j i = true) ∧ (dstSeen ops i j = true → waits ops j i = true) := fun j u hj => by
      have h1 := hrest j (List.mem_map.2 ⟨(j, u), hj, rfl⟩)
      simp only [Bool.or_eq_true, Bool.not_eq_true', bne_iff_ne] at h1
      exact ⟨h1.1.1.1, h1.1.1.2, fun e => h1.1.2.resolve_left (by rw [e]; simp), fun e => h1.2.resolve_left (by rw [e]; simp)⟩
    have hself' : dstSeen ops i i = false := by simpa using hself
    have hap : ∀ j u t, (j, u) ∈ vs → dstOf ops i = some t → dstOf ops j ≠ some t := fun j u t hj ht => by
      have h1 := (hrest' j u hj).2.1
      simp only [dstsApart, ht, bne_iff_ne] at h1
      exact h1
    have hM' : Has ops a0 (fun j u => M j u ∨ (j = i ∧ u = v)) (a.put o.dst v) := hdo ▸ hM.put (fun j u t hm ht => hdst j u i v t hm (List.mem_cons_self ..) ht) (fun _ _ => Iff.rfl)
    have hih := ih hr hM' hok' (fun j u i' v' t hm hi' ht => by
        rcases hm with hm | ⟨rfl, rfl⟩
        · exact hdst j u i' v' t hm (List.mem_cons_of_mem _ hi') ht
        · exact fun e => hap i' v' t hi' e ht)
      (fun j u i' v' hm hi' he => by
        rcases hm with hm | ⟨rfl, rfl⟩
        · exact hseen j u i' v' hm (List.mem_cons_of_mem _ hi') he
        · exact (hrest' i' v' hi').2.2.2 he)
      (fun j u i' v' hm hi' he => by
        rcases hm with hm | ⟨rfl, rfl⟩
        · exact hback j u i' v' hm (List.mem_cons_of_mem _ hi') he
        · exact (hrest' i' v' hi').2.2.1 he)
    have hiff : ∀ j u, ((M j u ∨ (j = i ∧ u = v)) ∨ (j, u) ∈ vs) ↔ (M j u ∨ (j, u) ∈ (i, v) :: vs) := fun j u => by
      rw [List.mem_cons, Prod.mk.injEq, or_assoc]
    refine ⟨?_, fun i' v' hm => ?_⟩
    · have h1 := hih.1
      exact ⟨h1.defers, h1.size, fun t j u hm => h1.there t j u ((hiff j u).2 hm), fun t ht => h1.else_ t fun j u hm => ht j u ((hiff j u).1 hm)⟩
    · rcases List.mem_cons.1 hm with e | hm
      · cases e
        refine ⟨o, a, M, ho, hg, hM, fun j u h => .inl h, fun j u h he => hseen j u i v h (List.mem_cons_self ..) he, fun j u h he => ?_⟩
        rcases h with h | h
        · exact .inl h
        · rcases List.mem_cons.1 h with e | h
          · cases e; rw [hself'] at he; cases he
          · exact .inr ((hrest' j u h).2.2.1 he)
      · obtain ⟨o', ai, N, ho', hg', hN, hN1, hN2, hN3⟩ := hih.2 i' v' hm
        exact ⟨o', ai, N, ho', hg', hN, fun j u h => (hiff j u).1 (hN1 j u h), hN2, fun j u h he => hN3 j u ((hiff j u).2 h) he⟩

theorem mk_all {vs : Nat → List (Nat × Value)} {ids : List Nat} {a0 : Act} {aD : Nat → Act} (hids : ∀ g, (vs g).map (·.1) = ids) (hvs : ∀ g g' i v, i ≠ k → (i, v) ∈ vs g → (i, v) ∈ vs g') (hki : k ∈ ids)
    (hD : ∀ g, DetsK P ops S R val k g (vs g) a0 (aD g)) (hk1 : detsOk ops [] ids = true) (hk3 : lateOk ops ids [] = true) (hk4 : dstsIn ops a0.tmps.size = true) (hns : Region.noSelect ops = true)
    (hSB : ∀ w w', S w → Below w.heap.size w w' → S w') (hRB : ∀ g w w', S w → R g w → Below w.heap.size w w' → R g w') (hend : ∀ g w, S w → R g w → Q .normal (aD g) w) :
    ∀ (fuel : Nat) (L : Array Bool) (a : Act) (w : World) (g : Nat), Has ops a0 (fun j u => L.getD j false = true ∧ (j, u) ∈ vs g) a → S w → (L.getD k false = true → R g w) → L.size = ops.size →
      (∀ i o, ops[i]? = some o → L.getD i false = true → ∀ e ∈ o.after, Region.binds .any e = true → L.getD e.on false = true) → cnt ops L ≤ fuel → wpAny P .any ops Q fuel L a w := by
  have hall := fun g => (hD g).all (a0 := a0) (M := fun _ _ => False) (Has.start a0) (by rw [hids]; exact hk1) (fun _ _ _ _ _ h => h.elim) (fun _ _ _ _ h => h.elim) (fun _ _ _ _ h => h.elim)
  simp only [lateOk, Bool.and_eq_true, List.all_eq_true, List.mem_range] at hk3
  obtain ⟨⟨⟨hcov, hord⟩, hlt⟩, -⟩ := hk3
  have hord' : ∀ i o, ops[i]? = some o → ∀ e ∈ o.after, Region.binds .any e = true → e.on < i := fun i o ho e he hb => by
    have h1 := hord i (Array.getElem?_eq_some_iff.1 ho).1
    simp only [ho, Option.map_some, Option.getD_some, Array.all_eq_true_iff_forall_mem] at h1
    have h2 := h1 e he
    simpa [hb] using h2
  have hlt' : ∀ i ∈ ids, i < ops.size := fun i hi => by simpa using hlt i hi
  have hin : ∀ i, i < ops.size → i ∈ ids := fun i hi => by
    have h1 := hcov i hi
    simpa using h1
  have hval : ∀ g v, (k, v) ∈ vs g → v = val g := fun g v hv => by
    obtain ⟨o, ai, N, ho, hg, _⟩ := (hall g).2 k v hv
    rcases hg with ⟨_, ⟨_, h, _⟩ | ⟨h, _⟩ | ⟨h, _⟩⟩ | ⟨h, _⟩
    · exact h
    · exact absurd rfl h
    · exact absurd rfl h
    · exact absurd rfl h
  have hmem : ∀ g i, i ∈ ids → ∃ v, (i, v) ∈ vs g := fun g i hi => by
    rw [← hids g] at hi
    obtain ⟨⟨i', v⟩, hv, rfl⟩ := List.mem_map.1 hi
    exact ⟨v, hv⟩
  have hready : ∀ (L : Array Bool), L.size = ops.size → ∀ x, x < ops.size → L.getD x true = false → Region.ready .any ops L ≠ [] := by
    intro L hs x
    induction x using Nat.strongRecOn with
    | _ x ihx =>
      intro hx hu hnil
      by_cases hr : ∀ e ∈ (ops[x]'hx).after, Region.binds .any e = true → L.getD e.on false = true
      · have : x ∈ Region.ready .any ops L := mem_ready.2 ⟨hu, ops[x], Array.getElem?_eq_getElem hx, hr⟩
        rw [hnil] at this
        cases this
      · obtain ⟨e, he⟩ := Classical.not_forall.mp hr
        obtain ⟨he, hb⟩ := Classical.not_imp.mp he
        obtain ⟨hb, hf⟩ := Classical.not_imp.mp hb
        have h1 := hord' x _ (Array.getElem?_eq_getElem hx) e he hb
        have h2 : e.on < ops.size := by omega
        exact ihx e.on h1 h2 (by rw [getD_tf (by rw [hs]; exact h2)]; simpa using hf) hnil
  have hdone : ∀ (L : Array Bool) (a : Act) (w : World) (g fuel : Nat), Has ops a0 (fun j u => L.getD j false = true ∧ (j, u) ∈ vs g) a → S w → (L.getD k false = true → R g w) → (∀ x ∈ ids, L.getD x false = true) → L.size = ops.size → wpAny P .any ops Q fuel L a w := by
    intro L a w g fuel hH hS hR hfull hs
    have ha : a = aD g := by
      refine Has.eq (M := fun j u => False ∨ (j, u) ∈ vs g) ⟨hH.defers, hH.size, fun t j u hm => hH.there t j u ⟨hfull j ?_, hm.resolve_left id⟩, fun t ht => hH.else_ t fun j u hm => ht j u (.inr hm.2)⟩ (hall g).1
      rw [← hids g]
      exact List.mem_map.2 ⟨(j, u), hm.resolve_left id, rfl⟩
    have hr : Region.ready .any ops L = [] := by
      refine List.eq_nil_iff_forall_not_mem.2 fun i hi => ?_
      obtain ⟨h1, o, ho, _⟩ := mem_ready.1 hi
      have h2 : i < ops.size := (Array.getElem?_eq_some_iff.1 ho).1
      rw [getD_tf (by rw [hs]; exact h2), hfull i (hin i h2)] at h1
      cases h1
    rw [ha]
    exact wpAny_le (Nat.zero_le _) ⟨hr, hend g w hS (hR (hfull k hki))⟩
  intro fuel
  induction fuel with
  | zero =>
    intro L a w g hH hS hR hs _ hc
    refine hdone L a w g 0 hH hS hR (fun x hx => ?_) hs
    cases hx0 : L.getD x false with
    | true => rfl
    | false =>
      have h1 := hlt' x hx
      have := cnt_pos (L := L) h1 (by rw [getD_tf (by rw [hs]; exact h1)]; exact hx0)
      omega
  | succ fuel ih =>
    intro L a w g hH hS hR hs hdown hc
    by_cases hfull : ∀ x ∈ ids, L.getD x false = true
    · exact hdone L a w g (fuel + 1) hH hS hR hfull hs
    obtain ⟨x0, hx0⟩ := Classical.not_forall.mp hfull
    obtain ⟨hx0, hf0⟩ := Classical.not_imp.mp hx0
    have hx1 := hlt' x0 hx0
    refine ⟨fun h => absurd h (hready L hs x0 hx1 (by rw [getD_tf (by rw [hs]; exact hx1)]; simpa using hf0)), fun i hi => ?_⟩
    obtain ⟨hun, o, ho, hwait⟩ := mem_ready.1 hi
    have hisz : i < ops.size := (Array.getElem?_eq_some_iff.1 ho).1
    have hiL : i < L.size := by rw [hs]; exact hisz
    have hunf : L.getD i false = false := by rw [← getD_tf hiL]; exact hun
    have hdo : dstOf ops i = o.dst := by simp [dstOf, ho]
    have hie := hin i hisz
    have hset : ∀ j, (L.setIfInBounds i true).getD j false = true ↔ L.getD j false = true ∨ j = i := fun j => by
      by_cases e : j = i
      · subst e; simp [hiL]
      · rw [getD_set_ne false (Ne.symm e)]; simp [e]
    have hdown' : ∀ j oj, ops[j]? = some oj → (L.setIfInBounds i true).getD j false = true → ∀ e ∈ oj.after, Region.binds .any e = true → (L.setIfInBounds i true).getD e.on false = true := fun j oj hoj hj e he hb => by
      rw [hset] at hj ⊢
      rcases hj with hj | rfl
      · exact .inl (hdown j oj hoj hj e he hb)
      · rw [ho] at hoj; cases hoj
        exact .inl (hwait e he hb)
    have hcnt : cnt ops (L.setIfInBounds i true) ≤ fuel := by
      have := cnt_set hisz hun hs
      omega
    have hothers : ∀ j u t, (L.getD j false = true ∧ (j, u) ∈ vs g) → dstOf ops i = some t → dstOf ops j ≠ some t := by
      intro j u t ⟨hj, hju⟩ ht
      have hne : j ≠ i := fun e => by rw [e, hunf] at hj; cases hj
      refine detsOk_apart hk1 i hie j ?_ (Ne.symm hne) t ht
      rw [← hids g]
      exact List.mem_map.2 ⟨(j, u), hju, rfl⟩
    obtain ⟨v, hiv⟩ := hmem g i hie
    obtain ⟨o', ai, N, ho', hg, hN, hN1, hN2, hN3⟩ := (hall g).2 i v hiv
    rw [ho] at ho'
    cases ho'
    have hsame : ∀ t, t ∈ o.looksAt ops → a.tmps[t]? = ai.tmps[t]? := by
      intro t ht
      refine hH.congr hN ?_
      by_cases he : ∃ j u, N j u ∧ dstOf ops j = some t
      · obtain ⟨j, u, hnj, hj⟩ := he
        have hw := hN2 j u hnj (dstSeen_of ho ht hj)
        obtain ⟨e, he, hb, rfl⟩ := waits_spec ho hw
        exact .inl ⟨_, u, ⟨hwait e he hb, (hN1 _ u hnj).resolve_left id⟩, hnj, hj⟩
      · have hno : ∀ j u, N j u → dstOf ops j ≠ some t := fun j u hm hj => he ⟨j, u, hm, hj⟩
        refine .inr ⟨fun j u hm hj => ?_, hno⟩
        obtain ⟨hjL, hju⟩ := hm
        have hsn := dstSeen_of ho ht hj
        rcases hN3 j u (.inr hju) hsn with h | h
        · exact hno j u h hj
        · have hjs : j < ops.size := hlt' j (by rw [← hids g]; exact List.mem_map.2 ⟨(j, u), hju, rfl⟩)
          obtain ⟨e, he, hb, h1⟩ := waits_spec (Array.getElem?_eq_getElem hjs) h
          have := hdown j _ (Array.getElem?_eq_getElem hjs) hjL e he hb
          rw [h1, hunf] at this
          cases this
    have huniq : ∀ g' u, (i, u) ∈ vs g' → ∀ u', (i, u') ∈ vs g' → u = u' := fun g' u h u' h' => detsOk_unique (by rw [hids]; exact hk1) h h'
    have hhas : ∀ g', (∀ j u, j ≠ i → ((j, u) ∈ vs g ↔ (j, u) ∈ vs g')) → ∀ v', (i, v') ∈ vs g' → Has ops a0 (fun j u => (L.setIfInBounds i true).getD j false = true ∧ (j, u) ∈ vs g') (a.put o.dst v') := fun g' hgg v' hv' => by
      refine hdo ▸ hH.put hothers fun j u => ?_
      rw [hset]
      constructor
      · rintro ⟨hj | rfl, hju⟩
        · have hne : j ≠ i := fun e => by rw [e, hunf] at hj; cases hj
          exact .inl ⟨hj, (hgg j u hne).2 hju⟩
        · exact .inr ⟨rfl, huniq g' u hju v' hv'⟩
      · rintro (⟨hj, hju⟩ | ⟨rfl, rfl⟩)
        · have hne : j ≠ i := fun e => by rw [e, hunf] at hj; cases hj
          exact ⟨.inl hj, (hgg j u hne).1 hju⟩
        · exact ⟨.inr rfl, hv'⟩
    have hd : ∀ d, o.dst = some d → d < ai.tmps.size := fun d hd => by
      have h1 := (List.all_eq_true.1 hk4) i (List.mem_range.2 hisz)
      rw [hdo, hd] at h1
      rw [hN.size]
      simpa using h1
    have hexec := exec_same (Region.noSelect_spec hns i o · · ho) hsame
    have hnext : i ≠ k → ∀ w', Below w.heap.size w w' → wpAny P .any ops Q fuel (L.setIfInBounds i true) (a.put o.dst v) w' := fun hik w' hb =>
      ih _ _ w' g (hhas g (fun _ _ _ => Iff.rfl) v hiv) (hSB w w' hS hb) (fun h => hRB g w w' hS (hR (((hset k).1 h).resolve_right (Ne.symm hik))) hb) (by simp [hs]) hdown' hcnt
    unfold wpOp
    simp only [ho]
    rw [wanted_same hsame]
    rcases hg with ⟨hw, hg⟩ | ⟨hik, hw, rfl⟩
    · rw [if_pos hw]
      refine .inl ?_
      rcases hg with ⟨rfl, rfl, hg⟩ | ⟨hik, hg⟩ | ⟨hik, hwt, hg⟩
      · refine Oper.wp_mono (fun a' w' h => ?_) (hg.wp (Q := Q) hexec hd hS)
        obtain ⟨g', rfl, hb, hr⟩ := h
        obtain ⟨v', hv'⟩ := hmem g' i hie
        obtain rfl := hval g' v' hv'
        exact ih _ _ w' g' (hhas g' (fun j u hne => ⟨hvs g g' j u hne, hvs g' g j u hne⟩) _ hv') (hSB w w' hS hb) (fun _ => hr) (by simp [hs]) hdown' hcnt
      · refine Oper.wp_mono (fun a' w' h => ?_) (hg.wp (Q := Q) hexec hd hS)
        obtain ⟨rfl, hb⟩ := h
        exact hnext hik w' hb
      · obtain ⟨e, he, hb, rfl⟩ := waits_spec ho hwt
        refine Oper.wp_mono (fun a' w' h => ?_) (hg.wp (Q := Q) hexec hd ⟨hS, hR (hwait e he hb)⟩)
        obtain ⟨rfl, hb⟩ := h
        exact hnext hik w' hb
    · rw [if_neg (by rw [hw]; decide)]
      exact hnext hik w (Below.refl _ _)

theorem vs_at {l1 l2 : List (Nat × Value)} {vs : Nat → List (Nat × Value)} (h : ∀ g, vs g = l1 ++ (k, val g) :: l2) (g g' i : Nat) (v : Value) (hne : i ≠ k) (hm : (i, v) ∈ vs g) : (i, v) ∈ vs g' := by
  rw [h] at hm ⊢
  rcases List.mem_append.1 hm with hm | hm
  · exact List.mem_append_left _ hm
  · rcases List.mem_cons.1 hm with e | hm
    · cases e; exact absurd rfl hne
    · exact List.mem_append_right _ (List.mem_cons_of_mem _ hm)
/-- A region with one such operation, and nothing new or late besides. -/
theorem wp_flat_make {id : Nat} {vs : Nat → List (Nat × Value)} {a0 : Act} {aD : Nat → Act} {w0 : World} (k : Nat) (R : Nat → World → Prop) (val : Nat → Value) (ids : List Nat) (hm : P.follows .mixedOrders = true) (hS : S w0.drew) (hSB : ∀ w w', S w → Below w.heap.size w w' → S w')
    (hRB : ∀ g w w', S w → R g w → Below w.heap.size w w' → R g w') (l1 l2 : List (Nat × Value)) (hids : ∀ g, (vs g).map (·.1) = ids) (hvs : ∀ g, vs g = l1 ++ (k, val g) :: l2)
    (hD : ∀ g, DetsK P ops S R val k g (vs g) a0 (aD g)) (hk : (detsOk ops [] ids && lateOk ops ids [] && dstsIn ops a0.tmps.size && Region.noSelect ops && ids.contains k) = true)
    (hend : ∀ g w, S w → R g w → Q .normal (aD g) w) : (Code.region id ops true).wp P Q a0 w0 := by
  simp only [Bool.and_eq_true] at hk
  obtain ⟨⟨⟨⟨k1, k3⟩, k4⟩, k5⟩, k6⟩ := hk
  refine wp_region_any hm ?_
  have hnone : ∀ j, (Array.replicate ops.size false).getD j false = false := fun j => by
    by_cases h : j < ops.size <;> simp [h]
  refine mk_all hids (vs_at hvs) (List.contains_iff_mem.1 k6) hD k1 k3 k4 k5 hSB hRB hend ops.size _ a0 _ 0 ?_ hS (fun h => ?_) (by simp) (fun i o _ h => ?_) ?_
  · exact ⟨rfl, rfl, fun t j u h => (by rw [hnone] at h; cases h.1), fun _ _ => rfl⟩
  · rw [hnone] at h; cases h
  · rw [hnone] at h; cases h
  · unfold cnt
    exact Nat.le_trans List.countP_le_length (by simp)
end
end

section
set_option maxRecDepth 100000
set_option linter.unusedSimpArgs false
set_option linter.unusedVariables false
open Go.RowKit
theorem hh_lt : pp < 57896044618658097711785492504343953926634992332820282019728792003956564819968 := by decide
theorem told_mod (P : A2) : told P % 57896044618658097711785492504343953926634992332820282019728792003956564819968 = P.2.val := by
  have a := P.2.isLt
  have b := hh_lt
  unfold told
  split <;> omega
theorem told_div (P : A2) : told P / 57896044618658097711785492504343953926634992332820282019728792003956564819968 % 2 = 1 ↔ P.1.val % 2 = 1 := by
  have a := P.2.isLt
  have b := hh_lt
  unfold told
  split <;> omega
theorem told_lt (P : A2) : told P < 256 ^ 32 := by
  have a := P.2.isLt
  have b := hh_lt
  have c : (256 : Nat) ^ 32 = 115792089237316195423570985008687907853269984665640564039457584007913129639936 := by decide
  rw [c]
  unfold told
  split <;> omega
theorem mul_on {d x y : Fin pp} (h : y * y - x * x - 1 - d * (x * x) * (y * y) = 0) : x * x * (d * (y * y) + 1) = y * y - 1 := by grind
/-- A point's bytes are read. -/
theorem dec_told {P : A2} (hP : On P) : decOk (told P) = true := by
  have e0 := told_mod P
  have e1 := told_div P
  have hlt := P.2.isLt
  unfold decOk
  rw [e0]
  have hyk := ofB_ok P.2.val
  have hy : fp (ofB P.2.val) = P.2 := Fin.ext (by
    show nu (ofB P.2.val) = P.2.val
    rw [nu_ofB, Nat.mod_eq_of_lt (Nat.lt_trans hlt hh_lt)]
    exact Nat.mod_eq_of_lt hlt)
  generalize ofB P.2.val = y at *
  have hv0 : nu (frV y) ≠ 0 := by
    intro e
    have e2 : fp (frV y) = 0 := Fin.ext e
    rw [fr_v hyk] at e2
    exact dy_ne0 (y := fp y) (by grind)
  have hs : quo (frU y) (frV y) % pp = P.1.val * P.1.val % pp := by
    have h1 := quo_v (u := frU y) hv0
    have h2 := mul_on hP
    rw [← hy, ← fr_v hyk, ← fr_u hyk] at h2
    have h3 : (fN (quo (frU y) (frV y))) * fp (frV y) = P.1 * P.1 * fp (frV y) := by
      rw [h2]
      refine Fin.ext ?_
      rw [Fin.val_mul]
      show quo (frU y) (frV y) % pp * nu (frV y) % pp = nu (frU y)
      rw [Nat.mod_mul_mod, h1, nu_mod]
    have h4 := canc (fun e => hv0 (congrArg Fin.val e)) h3
    have h5 := congrArg Fin.val h4
    rw [Fin.val_mul] at h5
    exact h5
  have hr := root_some hv0 hs
  rw [hr, decide_eq_true hlt, Bool.true_and, Bool.true_and, Bool.not_eq_true', Bool.and_eq_false_iff]
  by_cases ho : P.1.val % 2 = 1
  · right
    rw [decide_eq_false_iff_not]
    intro e
    have h6 := rootL_sq (frU_ok hyk) (frV_ok hyk) hv0 hr
    rw [e, hs, Nat.zero_mul] at h6
    have h7 : P.1 * P.1 = 0 := Fin.ext (by
      rw [Fin.val_mul]
      exact h6.symm)
    have h8 : P.1 = 0 := by rcases fp_dom h7 with h | h <;> exact h
    rw [h8] at ho
    exact absurd ho (by decide)
  · left
    rw [decide_eq_false_iff_not, e1]
    exact ho
/-- What is read of a point's bytes is that point. -/
theorem dcA_told {P : A2} (hP : On P) : dcA (told P) = P := by
  have h := dec_told hP
  have h1 := is_told (is_dec h)
  rw [dec_back (told_lt P) h] at h1
  exact told_inj (dcA_on h) hP h1.symm
/-- The base's bytes. -/
theorem ba_told : told bA = byN := by
  unfold told bA
  show nu (ofB byN) + (if nu (ofB bxN) % 2 = 1 then _ else 0) = _
  rw [nu_ofB, nu_ofB]
  decide
theorem b45 : nu (mulL (smL 4) (invL (smL 5))) = byN := by
  have h1 := nu_mulP (invL (smL 5)) (smL 5)
  have h2 := inv_one (smL 5)
  have n5 : nu (smL 5) = 5 := nu_smL (by decide)
  have n4 : nu (smL 4) = 4 := nu_smL (by decide)
  rw [n5, if_neg (by decide), nu_mulP, n5] at h2
  have h3 : fp (mulL (smL 4) (invL (smL 5))) = fN byN := by
    refine canc (z := fp (smL 5)) (fun e => absurd (n5.symm.trans (congrArg Fin.val e)) (by decide)) ?_
    refine Fin.ext ?_
    rw [Fin.val_mul, Fin.val_mul]
    show nu (mulL (smL 4) (invL (smL 5))) * nu (smL 5) % pp = byN % pp * nu (smL 5) % pp
    rw [nu_mulP, n4, n5, Nat.mod_mul_mod, Nat.mul_assoc, Nat.mul_mod, Nat.mul_comm (nu _) 5, h2]
    decide
  have h4 : nu (mulL (smL 4) (invL (smL 5))) = byN % pp := congrArg Fin.val h3
  rw [h4]
  decide

/-- The document's point of bytes that tell one. -/
def decR (N : Nat) : Rp := ⟨if N / 57896044618658097711785492504343953926634992332820282019728792003956564819968 % 2 = 1 then negL (rootL (frU (ofB (N % 57896044618658097711785492504343953926634992332820282019728792003956564819968))) (frV (ofB (N % 57896044618658097711785492504343953926634992332820282019728792003956564819968)))) else rootL (frU (ofB (N % 57896044618658097711785492504343953926634992332820282019728792003956564819968))) (frV (ofB (N % 57896044618658097711785492504343953926634992332820282019728792003956564819968))), ofB (N % 57896044618658097711785492504343953926634992332820282019728792003956564819968), smL 1⟩
theorem decR_ok (N : Nat) : (decR N).ok := by
  refine ⟨?_, ofB_ok _, sm_ok1⟩
  show Lm.ok (if _ then _ else _)
  split
  · exact negL_ok _
  · exact rootL_ok (frU_ok (ofB_ok _)) (frV_ok (ofB_ok _))
theorem decR_ir {N : Nat} (h : decOk N = true) : Ir (decR N) (dcA N) := ir_dec h rfl rfl rfl
theorem dr_x {N : Nat} (h : decOk N = true) (w : World) :
    Calls Tryd.prog 43 #[.agg (By N 32).toArray] w fun e w' => e = .returned (.tuple #[.agg (RL (decR N)).toArray, .bool true]) ∧ Below w.heap.size w w' := by
  refine (drx_ref N w).mono ?_
  rintro e w' ⟨⟨r, he, hr⟩, hb⟩
  exact ⟨by rw [he, hr h, h]; rfl, hb⟩
theorem byN_ok : decOk byN = true := by rw [← ba_told]; exact dec_told on_bA
/-- The document's base. -/
def baR : Rp := decR byN
theorem baR_ok : baR.ok := decR_ok _
theorem baR_ir : Ir baR bA := by
  have h := decR_ir byN_ok
  have e : dcA byN = bA := by rw [← ba_told]; exact dcA_told on_bA
  rwa [e] at h
theorem results_two_rows {P : Program} {fn : Func} {p q : Tmp} {ty tz : TypeId} (h : fn.results = #[.cell p ty, .cell q tz]) (tmps : Array Value) (w : World) (g k : Nat) (t u : TypeId) (cs ds : Array Value) (fr gr : Nat × Nat) (d e : TypeDesc)
    (hp : tmps.getD p undef = .pointer (some ⟨g, 0, none⟩)) (hg : w.heap[g]? = some (.cells cs t fr)) (hu : P.underlying ty = some d) (hd : (match d with | .struct _ | .array _ _ => true | _ => false) = true) (hi : (P.info? ty).map (·.size) = some cs.size)
    (hq : tmps.getD q undef = .pointer (some ⟨k, 0, none⟩)) (hk : w.heap[k]? = some (.cells ds u gr)) (hv : P.underlying tz = some e) (he : (match e with | .struct _ | .array _ _ => true | _ => false) = true) (hj : (P.info? tz).map (·.size) = some ds.size) :
    (results fn tmps).run P w = .ok (.tuple #[.agg cs, .agg ds]) w := by
  have hp' : tmps[p]?.getD undef = .pointer (some ⟨g, 0, none⟩) := by simpa using hp
  have hq' : tmps[q]?.getD undef = .pointer (some ⟨k, 0, none⟩) := by simpa using hq
  simp [results, h, hp', hq', asAddr, run_loadVar_row w g t ty cs fr d hg hu hd hi, run_loadVar_row w k u tz ds gr e hk hv he hj]

set_option maxHeartbeats 3200000 in
theorem bap_ref  (w : World) :
    Calls Tryd.prog 58 #[] w fun e w' => e = .returned (.agg (RL baR).toArray) ∧ Below w.heap.size w w' := by
  have hz : Row (w.alloc (.cells #[.int .u32 0, .int .u32 0, .int .u32 0, .int .u32 0, .int .u32 0, .int .u32 0, .int .u32 0, .int .u32 0, .int .u32 0, .int .u32 0, .int .u32 0, .int .u32 0, .int .u32 0, .int .u32 0, .int .u32 0, .int .u32 0, .int .u32 0, .int .u32 0, .int .u32 0, .int .u32 0, .int .u32 0, .int .u32 0, .int .u32 0, .int .u32 0] 62)) (w.heap.size) 62 (RL zeR) := by
    rw [RL_zero]
    exact Row.new w _ _
  have hw := Below.alloc1 w (.cells #[.int .u32 0, .int .u32 0, .int .u32 0, .int .u32 0, .int .u32 0, .int .u32 0, .int .u32 0, .int .u32 0, .int .u32 0, .int .u32 0, .int .u32 0, .int .u32 0, .int .u32 0, .int .u32 0, .int .u32 0, .int .u32 0, .int .u32 0, .int .u32 0, .int .u32 0, .int .u32 0, .int .u32 0, .int .u32 0, .int .u32 0, .int .u32 0] 62)
  go_enter Tryd.func58, Tryd.ntmps58
  go_wp2_with fail
  refine (smallr_nu 4 (by decide) _).mono ?_
  rintro e W1 ⟨rfl, hb⟩
  replace hz := hz.belowAll hb
  replace hw := hw.trans (hb.mono hw.size)
  clear hb
  go_wp2_with fail
  refine (smallr_nu 5 (by decide) _).mono ?_
  rintro e W2 ⟨rfl, hb⟩
  replace hz := hz.belowAll hb
  replace hw := hw.trans (hb.mono hw.size)
  clear hb
  go_wp2_with fail
  refine (invr_nu (smL 5) _).mono ?_
  rintro e W3 ⟨rfl, hb⟩
  replace hz := hz.belowAll hb
  replace hw := hw.trans (hb.mono hw.size)
  clear hb
  go_wp2_with fail
  refine (mulr_nu (smL 4) (invL (smL 5)) _).mono ?_
  rintro e W4 ⟨rfl, hb⟩
  replace hz := hz.belowAll hb
  replace hw := hw.trans (hb.mono hw.size)
  clear hb
  have lt_hz := hz.lt
  have ne_hz_4 : w.heap.size ≠ W4.heap.size := by omega
  have new_4 := Row.new W4 (Nw 0) 30
  replace hz := (hz.alloc (.cells (Nw 0).toArray 30)).setRowOther (k := W4.heap.size) ne_hz_4 (Nw (nu (mulL (smL 4) (invL (smL 5))))).toArray
  have h1 := new_4.setRow (Nw (nu (mulL (smL 4) (invL (smL 5)))))
  have ge_4 := hw.size
  replace hw := below_setRow (g := W4.heap.size) (hw.alloc hw.size (.cells (Nw 0).toArray 30)) hw.size (Nw (nu (mulL (smL 4) (invL (smL 5))))).toArray
  have NEW := Lib.hid new_4
  clear new_4 lt_hz
  go_wp2_with (first
    | (refine wpList_store_row rfl 30 (.tmp 1) (.tmp 7) rfl W4.heap.size _ rfl rfl 30 _ NEW.out (nw_info _) (Nw_sz _ _) (Nw_one _) ?_)
    | (refine wpList_load_row rfl 30 (.tmp 1) rfl (W4.heap.size) rfl 30 _ (0, 0) _ h1 Tryd.underlying30 rfl (nw_info _) ?_))
  clear NEW
  rw [zero8]
  generalize (W4.alloc (.cells (Nw 0).toArray 30)).setRow W4.heap.size (Nw (nu (mulL (smL 4) (invL (smL 5))))).toArray = V4 at *
  generalize W4.heap.size = g1 at *
  refine (rbytes_ref (nu (mulL (smL 4) (invL (smL 5)))) _).mono ?_
  rintro e W5 ⟨rfl, hb⟩
  replace hz := hz.belowAll hb
  replace h1 := h1.belowAll hb
  replace hw := hw.trans (hb.mono hw.size)
  clear hb
  rw [b45]
  go_wp2_with fail
  refine (dr_x byN_ok _).mono ?_
  rintro e W6 ⟨rfl, hb⟩
  replace hz := hz.belowAll hb
  replace h1 := h1.belowAll hb
  replace hw := hw.trans (hb.mono hw.size)
  clear hb
  have lz := hz.lt
  have e2 := rl_zero_row W6
  have h2 := e2.setRow (RL baR)
  replace hz := (hz.alloc (.cells #[.int .u32 0, .int .u32 0, .int .u32 0, .int .u32 0, .int .u32 0, .int .u32 0, .int .u32 0, .int .u32 0, .int .u32 0, .int .u32 0, .int .u32 0, .int .u32 0, .int .u32 0, .int .u32 0, .int .u32 0, .int .u32 0, .int .u32 0, .int .u32 0, .int .u32 0, .int .u32 0, .int .u32 0, .int .u32 0, .int .u32 0, .int .u32 0] 62)).setRowOther (k := W6.heap.size) (by omega) (RL baR).toArray
  replace hw := below_setRow (g := W6.heap.size) (hw.alloc hw.size (.cells #[.int .u32 0, .int .u32 0, .int .u32 0, .int .u32 0, .int .u32 0, .int .u32 0, .int .u32 0, .int .u32 0, .int .u32 0, .int .u32 0, .int .u32 0, .int .u32 0, .int .u32 0, .int .u32 0, .int .u32 0, .int .u32 0, .int .u32 0, .int .u32 0, .int .u32 0, .int .u32 0, .int .u32 0, .int .u32 0, .int .u32 0, .int .u32 0] 62)) hw.size (RL baR).toArray
  have hgot := setRow_heap _ (w.heap.size) _ (RL baR).toArray _ _ hz
  have HGOT := Lib.hid hgot
  have HW := Lib.hid hw
  have E2 := Lib.hid e2
  have H2 := Lib.hid h2
  have HZ := Lib.hid hz
  clear hgot hw e2 h2 hz lz h1
  go_wp2_with (first
    | (refine wpList_store_row rfl 62 (.tmp 2) (.tmp 12) rfl W6.heap.size _ rfl rfl 62 _ E2.out (rl_info _) (RL_sz _ _) (RL_one _) ?_)
    | (refine wpList_load_row rfl 62 (.tmp 2) rfl W6.heap.size rfl 62 _ (0, 0) _ H2.out Tryd.underlying62 rfl (rl_info _) ?_)
    | (refine wpList_store_row rfl 62 (.tmp 0) (.tmp 14) rfl (w.heap.size) _ rfl rfl 62 _ HZ.out (rl_info _) (RL_sz _ _) (RL_one _) ?_))
  refine bodyPost_ret (results_cell_row (by rfl) _ _ (w.heap.size) _ _ _ _ (by rfl) HGOT.out Tryd.underlying62 rfl (rl_info _)) rfl ?_
  exact ⟨rfl, below_setRow HW.out (by omega) _⟩

set_option maxHeartbeats 3200000 in
theorem two_any (N : Nat) (w : World) (hq : Gc w) :
    Calls Tryd.prog 48 #[.agg (By N 32).toArray] w fun e w' => e = .returned (.tuple #[.agg (PL (muP baP N)).toArray, .agg (RL (rmuP baR N)).toArray]) ∧ Below w.heap.size w w' := by
  have hb0 := ((Row.new w (By N 32) 22).alloc (.cells (PL zeP).toArray 58)).alloc (.cells (RL zeR).toArray 62)
  have hp0 := (Row.new1 w (.cells (By N 32).toArray 22) (PL zeP) 58).alloc (.cells (RL zeR).toArray 62)
  have hz := Row.new2 w (.cells (By N 32).toArray 22) (.cells (PL zeP).toArray 58) (RL zeR) 62
  have hw := Below.alloc3 w (.cells (By N 32).toArray 22) (.cells (PL zeP).toArray 58) (.cells (RL zeR).toArray 62)
  go_enter Tryd.func48, Tryd.ntmps48
  go_wp2_with fail
  rw [z20, z24]
  generalize ((w.alloc (.cells (By N 32).toArray 22)).alloc (.cells (PL zeP).toArray 58)).alloc (.cells (RL zeR).toArray 62) = W0 at *
  refine wp_flat_seq (aD := ?aD1) (S := fun w' => Below W0.heap.size W0 w') (s1 := 6) (s2 := 7) (L1 := 58) (L2 := 62) (T1 := 58) (T2 := 62) (g1 := w.heap.size + 1) (g2 := w.heap.size + 1 + 1) (z1 := PL zeP) (z2 := RL zeR) (c1 := PL (muP baP N)) (c2 := RL (rmuP baR N)) (x1 := .tmp 2) (y1 := .tmp 6) (x2 := .tmp 3) (y2 := .tmp 9)
    (vs := [(0, .agg (PL baP).toArray), (1, .agg (By N 32).toArray), (2, .agg (PL (muP baP N)).toArray), (3, .agg (RL baR).toArray), (4, .agg (By N 32).toArray), (5, .agg (RL (rmuP baR N)).toArray)]) (by kernel_rfl) ((Below.refl _ _).drew) (fun _ _ h k => S_trans h k) ?hD1 ?hk1 rfl rfl rfl rfl rfl rfl rfl rfl ?ea1 ?eb1 ?ec1 ?ed1 (by omega) (fun w' h => hp0.belowAll h) (fun w' h => hz.belowAll h) (pl_info _) (PL_sz _ _) (PL_one _) (rl_info _) (RL_sz _ _) (RL_one _) ?h1
  case hD1 =>
    refine .step (some 4) rfl rfl (by kernel_rfl) (Gives.call (args := []) rfl Tryd.func61 (by kernel_rfl) (by kernel_rfl) rfl (fun w' h => ba_any w' ((hq.belowAll hw).belowAll h))) ?_
    simp only [Act.put, List.setIfInBounds_toArray, List.set_cons_zero, List.set_cons_succ]
    refine .step (some 5) rfl rfl (by kernel_rfl) (Gives.load_row 22 (.tmp 1) rfl (w.heap.size) rfl 22 _ (fun w' h => hb0.belowAll h) Tryd.underlying22 rfl (by_info _)) ?_
    simp only [Act.put, List.setIfInBounds_toArray, List.set_cons_zero, List.set_cons_succ]
    refine .step (some 6) rfl rfl (by kernel_rfl) (Gives.call (args := [.agg (PL baP).toArray, .agg (By N 32).toArray]) rfl Tryd.func56 (by kernel_rfl) (by kernel_rfl) rfl (fun w' h => mu_any baP_ok N w' ((hq.belowAll hw).belowAll h))) ?_
    simp only [Act.put, List.setIfInBounds_toArray, List.set_cons_zero, List.set_cons_succ]
    refine .step (some 7) rfl rfl (by kernel_rfl) (Gives.call (args := []) rfl Tryd.func58 (by kernel_rfl) (by kernel_rfl) rfl (fun w' h => bap_ref w')) ?_
    simp only [Act.put, List.setIfInBounds_toArray, List.set_cons_zero, List.set_cons_succ]
    refine .step (some 8) rfl rfl (by kernel_rfl) (Gives.load_row 22 (.tmp 1) rfl (w.heap.size) rfl 22 _ (fun w' h => hb0.belowAll h) Tryd.underlying22 rfl (by_info _)) ?_
    simp only [Act.put, List.setIfInBounds_toArray, List.set_cons_zero, List.set_cons_succ]
    refine .step (some 9) rfl rfl (by kernel_rfl) (Gives.call (args := [.agg (RL baR).toArray, .agg (By N 32).toArray]) rfl Tryd.func57 (by kernel_rfl) (by kernel_rfl) rfl (fun w' h => mup_ref baR_ok N w')) ?_
    simp only [Act.put, List.setIfInBounds_toArray, List.set_cons_zero, List.set_cons_succ]
    exact .nil
  case hk1 => kernel_rfl
  case ea1 => rfl
  case eb1 => rfl
  case ec1 => rfl
  case ed1 => rfl
  case h1 =>
  intro W1 hb
  replace hb0 := hb0.belowAll hb
  replace hp0 := hp0.belowAll hb
  replace hz := hz.belowAll hb
  replace hw := hw.trans (hb.mono hw.size)
  clear hb
  replace hb0 := hb0.setRowOther (k := w.heap.size + 1) (by omega) (PL (muP baP N)).toArray
  replace hp0 := hp0.setRow (PL (muP baP N))
  replace hz := hz.setRowOther (k := w.heap.size + 1) (by omega) (PL (muP baP N)).toArray
  replace hw := below_setRow (g := w.heap.size + 1) hw (by omega) (PL (muP baP N)).toArray
  replace hb0 := hb0.setRowOther (k := w.heap.size + 1 + 1) (by omega) (RL (rmuP baR N)).toArray
  replace hp0 := hp0.setRowOther (k := w.heap.size + 1 + 1) (by omega) (RL (rmuP baR N)).toArray
  replace hz := hz.setRow (RL (rmuP baR N))
  replace hw := below_setRow (g := w.heap.size + 1 + 1) hw (by omega) (RL (rmuP baR N)).toArray
  have HB0 := Lib.hid hp0
  have HB1 := Lib.hid hz
  have HW := Lib.hid hw
  clear hb0 hp0 hz hw
  go_wp2_with fail
  refine bodyPost_ret (results_two_rows (by rfl) _ _ (w.heap.size + 1) (w.heap.size + 1 + 1) _ _ _ _ _ _ _ _ (by rfl) HB0.out Tryd.underlying58 rfl (pl_info _) (by rfl) HB1.out Tryd.underlying62 rfl (rl_info _)) rfl ?_
  exact ⟨rfl, HW.out⟩
end

section
set_option maxRecDepth 100000
set_option linter.unusedSimpArgs false
set_option linter.unusedVariables false
open Go.RowKit

/-- Points that lie one behind the other. -/
def PtRd (w : World) (b : Nat) (l : List Pm) : Prop := b < w.heap.size ∧ ∀ (k : Nat) (s : Pm), l[k]? = some s → ∀ (j : Nat) (v : Value), (PL s)[j]? = some v → w.cell? ⟨b, 20 * k + j, none⟩ = some v
theorem PtRd.below {w w' : World} {b : Nat} {l : List Pm} (h : PtRd w b l) (hb : Below w.heap.size w w') : PtRd w' b l :=
  ⟨Nat.lt_of_lt_of_le h.1 hb.size, fun k s hs j v hv => (hb.cell (p := ⟨b, 20 * k + j, none⟩) h.1).trans (h.2 k s hs j v hv)⟩
/-- The sum of points. -/
def suP (l : List Pm) : Pm := l.foldl adP ze1
theorem suP_take (l : List Pm) {j : Nat} {s : Pm} (hs : l[j]? = some s) : suP (l.take (j + 1)) = adP (suP (l.take j)) s := by
  unfold suP
  rw [List.take_add_one, hs, List.foldl_append]
  rfl
theorem fold_ok : ∀ (l : List Pm) {a : Pm}, (∀ s ∈ l, s.ok) → a.ok → (l.foldl adP a).ok
  | [], _, _, ha => ha
  | s :: r, _, h, ha => fold_ok r (fun t ht => h t (List.mem_cons_of_mem _ ht)) (adP_ok ha (h s (List.mem_cons_self ..)))
theorem suP_ok {l : List Pm} (h : ∀ s ∈ l, s.ok) : (suP l).ok := fold_ok l h ze1_ok
theorem ix_pt2 (b n cap k : Nat) (h : k < n) (w : World) : (Instr.indexAt 102 (.slice (some ⟨b, 0, none⟩) n cap) (.int .i64 (k : Int))).run Tryd.prog w = .ok (.pointer (some ⟨b, 20 * k, none⟩)) w := by
  have h1 : (0 : Int) ≤ (k : Int) := by omega
  have h2 : (k : Int) < (n : Int) := by omega
  have e : (⟨b, 0, none⟩ : Addr).add (k * 20) = ⟨b, 20 * k, none⟩ := by rw [Addr.add_mid, Nat.mul_comm, Nat.zero_add]
  go_simp
  try rw [e]
theorem wpList_indexAt {P : Program} {ops : Array Oper} {rest : List Oper} {o : Oper} {a : Act} {w : World} {Q : Exit → Act → World → Prop} (hgd : o.guard = none) (T : TypeId) (x y : Operand) (ho : o.op = .indexAddr T x y) (u v r : Value) (hx : a.eval x = u) (hy : a.eval y = v)
    (hi : (Instr.indexAt T u v).run P w = .ok r w) (h : wpList P ops Q rest (a.put o.dst r) w) : wpList P ops Q (o :: rest) a w := by
  refine wpList_plain hgd fun _ hK => ?_
  unfold Oper.wp execOp
  simp only [ho, Sem.run_bind, Sem.run_pure, Result.andThen_ok, hx, hy, hi]
  exact hK _ _ h

set_option maxHeartbeats 6400000 in
theorem su_any (l : List Pm) (hl : ∀ s ∈ l, s.ok) (p : Option Addr) (n cap : Nat) (hn : l.length = n) (hn9 : n ≤ 1000) (w : World) (hr : 0 < n → ∃ b, p = some ⟨b, 0, none⟩ ∧ PtRd w b l) (hq : Gc w) :
    Calls Tryd.prog 60 #[.slice p n cap] w fun e w' => e = .returned (.agg (PL (suP l)).toArray) ∧ Below w.heap.size w w' := by
  have HL := Lib.hid hl
  have HN := Lib.hid hn
  have HR := Lib.hid hr
  have HQ := Lib.hid hq
  have hz := Row.new w (PL zeP) 58
  have hw := Below.alloc1 w (.cells (PL zeP).toArray 58)
  clear hl hn hr hq
  go_enter Tryd.func60, Tryd.ntmps60
  go_wp2_with fail
  rw [z20]
  generalize w.alloc (.cells (PL zeP).toArray 58) = W0 at *
  refine (ze_any _ (HQ.out.belowAll hw)).mono ?_
  rintro e W1 ⟨rfl, hb⟩
  replace hz := hz.belowAll hb
  replace hw := hw.trans (hb.mono hw.size)
  have hlz := hz.lt
  have e3 := Row.new W1 (PL zeP) 58
  have h3 := e3.setRow (PL ze1)
  replace hz := (hz.alloc (.cells (PL zeP).toArray 58)).setRowOther (k := W1.heap.size) (by omega) (PL ze1).toArray
  have hge := hw.size
  replace hw := below_setRow (g := W1.heap.size) (hw.alloc hge (.cells (PL zeP).toArray 58)) hge (PL ze1).toArray
  have E3 := Lib.hid e3
  clear e3 hb
  go_wp2_with (refine wpList_store_row rfl 58 (.tmp 3) (.tmp 6) rfl W1.heap.size _ rfl rfl 58 _ E3.out (pl_info _) (PL_sz _ _) (PL_one _) ?_)
  clear E3
  rw [z20]
  generalize (W1.alloc (.cells (PL zeP).toArray 58)).setRow W1.heap.size (PL ze1).toArray = V1 at *
  have HNE := Lib.hid (show w.heap.size ≠ W1.heap.size by omega)
  have HLT := Lib.hid h3.lt
  generalize W1.heap.size = g3 at *
  have HGE := Lib.hid hge
  have HZ := Lib.hid hz
  have H3 := Lib.hid h3
  have HW := Lib.hid hw
  clear hz h3 hw hge hlz
  go_loopw [9] (fun i wr => ∃ k : Nat, k ≤ n ∧ i = .int .i64 (k : Int) ∧ Row wr w.heap.size 58 (PL zeP) ∧ Row wr g3 58 (PL (suP (l.take k))) ∧ Below w.heap.size w wr) (fun i _ => n - (intOf i).toNat)
  case atStart => exact ⟨0, by omega, rfl, HZ.out, H3.out, HW.out⟩
  case round =>
    obtain ⟨k, hkn, rfl, hz, h3, hw⟩ := hrel
    have bk0 : (0 : Int) ≤ (k : Int) := by omega
    by_cases hk : k < n
    · have hki : (k : Int) < (n : Int) := by omega
      have hk9 : (k : Int) < 1000 := by omega
      have hkl : k < l.length := by rw [HN.out]; exact hk
      obtain ⟨s, hs⟩ : ∃ s, l[k]? = some s := ⟨l[k], List.getElem?_eq_getElem hkl⟩
      have hsk := HL.out s (List.mem_of_getElem? hs)
      have hak := suP_ok (l := l.take k) (fun t ht => HL.out t (List.mem_of_mem_take ht))
      have hnext := suP_take l hs
      have hadd := fun wx hq => ad_any hak hsk wx hq
      rw [← hnext] at hadd
      obtain ⟨b, rfl, hpr⟩ := HR.out (by omega)
      have hpt := hpr.below hw
      have hcell : ∀ j v, (PL s)[j]? = some v → wr.cell? ((⟨b, 20 * k, none⟩ : Addr).add j) = some v := fun j v hv => by rw [Addr.add_mid]; exact hpt.2 k s hs j v hv
      obtain ⟨an, han⟩ : ∃ an, an = suP (l.take (k + 1)) := ⟨_, rfl⟩
      rw [← han] at hadd
      have HAN := Lib.hid han
      have HADD := Lib.hid hadd
      have HIX := Lib.hid (ix_pt2 b n cap k hk wr)
      have hl3 := h3.lt
      have hlz := hz.lt
      have e5 := Row.new wr (PL zeP) 58
      have h5 := e5.setRow (PL s)
      have hz5 := (hz.alloc (.cells (PL zeP).toArray 58)).setRowOther (k := wr.heap.size) (by omega) (PL s).toArray
      have h35 := (h3.alloc (.cells (PL zeP).toArray 58)).setRowOther (k := wr.heap.size) (by omega) (PL s).toArray
      have hsz := hw.size
      have hw5 := below_setRow (g := wr.heap.size) (hw.alloc hsz (.cells (PL zeP).toArray 58)) hsz (PL s).toArray
      have hnn : wr.heap.size ≠ g3 := by omega
      have E5 := Lib.hid e5
      have H5 := Lib.hid h5
      have HZ5 := Lib.hid hz5
      have H35 := Lib.hid h35
      have HW5 := Lib.hid hw5
      have HC := Lib.hid hcell
      have HNN := Lib.hid hnn
      clear hkl hs hsk hak hnext hadd hpr hpt hcell han hz h3 hw hl3 hlz e5 h5 hz5 h35 hsz hw5 hnn HZ H3 HW
      generalize suP (l.take k) = a0 at *
      go_wp2_with (first
        | (refine wpList_indexAt rfl 102 (.tmp 7) (.tmp 9) rfl _ _ _ rfl rfl HIX.out ?_)
        | (refine wpList_load_at rfl 58 (.tmp 11) rfl ⟨b, 20 * k, none⟩ rfl (PL s) _ HC.out Tryd.underlying58 rfl (pl_len _) ?_)
        | (refine wpList_store_row rfl 58 (.tmp 5) (.tmp 12) rfl wr.heap.size _ rfl rfl 58 _ E5.out (pl_info _) (PL_sz _ _) (PL_one _) ?_)
        | (refine wpList_load_row rfl 58 (.tmp 3) rfl g3 rfl 58 _ (0, 0) _ H35.out Tryd.underlying58 rfl (pl_info _) ?_)
        | (refine wpList_load_row rfl 58 (.tmp 5) rfl wr.heap.size rfl 58 _ (0, 0) _ H5.out Tryd.underlying58 rfl (pl_info _) ?_))
      clear E5 HC HIX
      rw [z20]
      generalize (wr.alloc (.cells (PL zeP).toArray 58)).setRow wr.heap.size (PL s).toArray = V5 at *
      generalize wr.heap.size = g5 at *
      refine (HADD.out _ (HQ.out.belowAll HW5.out)).mono ?_
      rintro e W6 ⟨rfl, hb⟩
      have h36 := H35.out.belowAll hb
      have hz6 := (HZ5.out.belowAll hb).setRowOther (k := g3) HNE.out (PL an).toArray
      have h37 := h36.setRow (PL an)
      have hw6 := below_setRow (g := g3) (HW5.out.trans (hb.mono HW5.out.size)) HGE.out (PL an).toArray
      have H36 := Lib.hid h36
      have H37 := Lib.hid h37
      have HZ6 := Lib.hid hz6
      have HW6 := Lib.hid hw6
      clear h36 hz6 h37 hw6 hb H35 HZ5 HW5
      go_wp2_with (refine wpList_store_row rfl 58 (.tmp 3) (.tmp 15) rfl g3 _ rfl rfl 58 _ H36.out (pl_info _) (PL_sz _ _) (PL_one _) ?_)
      go_roundw
      case rel => exact ⟨k + 1, by omega, by go_num, HZ6.out, by rw [← HAN.out]; exact H37.out, HW6.out⟩
      case measure => simp [intOf] <;> omega
    · obtain rfl : k = n := by omega
      rw [List.take_of_length_le (by rw [HN.out]; exact Nat.le_refl _)] at h3
      have hgot := setRow_heap _ w.heap.size _ (PL (suP l)).toArray _ _ hz
      have HGOT := Lib.hid hgot
      have HZ4 := Lib.hid hz
      have H34 := Lib.hid h3
      have HW4 := Lib.hid hw
      clear hgot hz h3 hw
      go_wp2_with (first
        | (refine wpList_load_row rfl 58 (.tmp 3) rfl g3 rfl 58 _ (0, 0) _ H34.out Tryd.underlying58 rfl (pl_info _) ?_)
        | (refine wpList_store_row rfl 58 (.tmp 2) (.tmp 17) rfl w.heap.size _ rfl rfl 58 _ HZ4.out (pl_info _) (PL_sz _ _) (PL_one _) ?_))
      refine bodyPost_ret (results_cell_row (by rfl) _ _ w.heap.size _ _ _ _ (by rfl) HGOT.out Tryd.underlying58 rfl (pl_info _)) rfl ?_
      exact ⟨rfl, below_setRow HW4.out (Nat.le_refl _) _⟩

def sideP (l : List Pm) : List Value := l.flatMap PL
theorem sideP_get : ∀ (l : List Pm) (k : Nat) (s : Pm) (j : Nat), l[k]? = some s → j < 20 → (sideP l)[20 * k + j]? = (PL s)[j]?
  | [], k, s, j, h, _ => by simp at h
  | t :: l, 0, s, j, h, hj => by
    obtain rfl : t = s := by simpa using h
    show (PL t ++ sideP l)[20 * 0 + j]? = _
    rw [Nat.mul_zero, Nat.zero_add, List.getElem?_append_left (by rw [PL_length]; exact hj)]
  | t :: l, k + 1, s, j, h, hj => by
    have ih := sideP_get l k s j (by simpa using h) hj
    show (PL t ++ sideP l)[20 * (k + 1) + j]? = _
    rw [List.getElem?_append_right (by rw [PL_length]; omega), PL_length, show 20 * (k + 1) + j - 20 = 20 * k + j by omega, ih]
theorem sideP_rd (w : World) (l : List Pm) (T : TypeId) : PtRd (w.alloc (.cells (sideP l).toArray T)) w.heap.size l := by
  refine ⟨by simp, fun k s hs j v hv => ?_⟩
  have hj : j < 20 := by
    have := (List.getElem?_eq_some_iff.1 hv).1
    rwa [PL_length] at this
  have hr : Row (w.alloc (.cells (sideP l).toArray T)) w.heap.size T (sideP l) := Row.new w (sideP l) T
  refine hr.cell ?_
  rw [sideP_get l k s j hs hj]
  exact hv
theorem fill_pts (len : Nat) (l : List Pm) (hlen : len = l.length) (parts : List (Nat × Value)) (hp : parts = ((l.map fun s => Value.agg (PL s).toArray).zipIdx 0).map fun x => (x.2, x.1)) (z : Value) :
    Instr.fill (fun i => some (i * 20, 20)) ((Array.range (len * 20)).map (z.cells[· % z.cells.size]!)) parts = some (sideP l).toArray := by
  rw [hp]
  have hw := Great.fill_whole (s := 20) (by decide) (l.map fun s => Value.agg (PL s).toArray) ((Array.range (len * 20)).map (z.cells[· % z.cells.size]!)) (fun v hv => by
    obtain ⟨s, _, rfl⟩ := List.mem_map.1 hv
    show (PL s).toArray.size = 20
    rw [List.size_toArray, PL_length]) (by simp [hlen])
  rw [hw]
  congr 2
  unfold sideP
  rw [List.flatMap_map]
  rfl
theorem pt_inf : ((Tryd.prog.info? 58).map fun i => (i.zero.isSome, i.size)) = some (true, 20) := by kernel_rfl
theorem wp_buildPts {o : Oper} {a : Act} {w : World} {K : Act → World → Prop} {Q : Exit → Act → World → Prop} (len : Nat) (parts : Array (Nat × Operand)) (ho : o.op = .buildSlice 102 len parts)
    (l : List Pm) (hlen : len = l.length) (hpos : 0 < len) (hsm : len < 1000) (hp : (parts.toList.map fun y => (y.1, a.eval y.2)) = ((l.map fun s => Value.agg (PL s).toArray).zipIdx 0).map fun x => (x.2, x.1))
    (h : K (a.put o.dst (.slice (some ⟨w.heap.size, 0, none⟩) len len)) (w.alloc (.cells (sideP l).toArray 58))) : o.wp Tryd.prog a w K Q := by
  obtain ⟨ie, hie, hz⟩ := Option.map_eq_some_iff.1 pt_inf
  simp only [Prod.mk.injEq] at hz
  obtain ⟨z, hzz⟩ := Option.isSome_iff_exists.1 hz.1
  refine wp_buildSlice 102 58 len parts ho (sideP l).toArray ie z Tryd.underlying102 hie hzz (by rw [hz.2]; omega) (by rw [hz.2]; omega) ?_ h
  rw [Array.toList_map, show (parts.toList.map fun (i, x) => (i, a.eval x)) = (parts.toList.map fun y => (y.1, a.eval y.2)) from rfl, hp, hz.2]
  exact fill_pts len l hlen _ rfl z
theorem Makes.pts {S : World → Prop} {o : Oper} {a : Act} (len : Nat) (parts : Array (Nat × Operand)) (ho : o.op = .buildSlice 102 len parts)
    (l : List Pm) (hlen : len = l.length) (hpos : 0 < len) (hsm : len < 1000) (hp : (parts.toList.map fun y => (y.1, a.eval y.2)) = ((l.map fun s => Value.agg (PL s).toArray).zipIdx 0).map fun x => (x.2, x.1)) :
    Makes Tryd.prog S (fun g w => PtRd w g l) (fun g => .slice (some ⟨g, 0, none⟩) len len) o a := fun w _ K hK =>
  wp_buildPts len parts ho l hlen hpos hsm hp (hK w.heap.size _ ((Below.refl _ _).alloc (Nat.le_refl _) _) (sideP_rd w l _))
end

end Go.Proofs.YthpbipebpaeagaaDoor
