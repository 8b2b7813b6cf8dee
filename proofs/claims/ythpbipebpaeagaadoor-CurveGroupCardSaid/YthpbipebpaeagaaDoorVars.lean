/- Regions that draw their order, that make variables or store whole rows into variables: whatever the order. Over any program. -/
import Derived.Test.YthpbipebpaeagaaDoorGives
namespace Go.Proofs.YthpbipebpaeagaaDoor
open Go.RowKit

section
variable {P : Program} {ops : Array Oper} {Q : Exit → Act → World → Prop} {S : World → Prop}

/-- A variable that the region stores into: made by it (alloc), or one that stands in blk; its cells before, and behind the store. -/
structure Var where
  alloc : Option Nat
  blk : Nat
  T : TypeId
  z : List Value
  c : List Value
  st : Nat
def Var.g (gs : Nat → Nat) (v : Var) : Nat := match v.alloc with
  | some k => gs k
  | none => v.blk
def allocsOf (vars : List Var) : List Nat := vars.filterMap (·.alloc)
def storesOf (vars : List Var) : List Nat := vars.map (·.st)
theorem mem_allocs {vars : List Var} {v : Var} {k : Nat} (hv : v ∈ vars) (hk : v.alloc = some k) : k ∈ allocsOf vars := List.mem_filterMap.2 ⟨v, hv, hk⟩
def coverOk (ops : Array Oper) (early stores : List Nat) : Bool :=
  ((List.range ops.size).all fun i => early.contains i || stores.contains i) &&
  ((List.range ops.size).all fun i => ((ops[i]?).map fun o => o.after.all fun e => !Region.binds .any e || decide (e.on < i)).getD false) &&
  (early.all fun i => decide (i < ops.size) && !stores.contains i) && (stores.all fun i => decide (i < ops.size)) &&
  (stores.all fun s => early.all fun j => !dstSeen ops j s || waits ops s j)
def nodupOk : List Nat → Bool
  | [] => true
  | x :: r => !r.contains x && nodupOk r
theorem st_unique : ∀ {vars : List Var}, nodupOk (storesOf vars) = true → ∀ v ∈ vars, ∀ v' ∈ vars, v.st = v'.st → v = v'
  | [], _, _, h => by cases h
  | x :: r, hok, v, hv => by
    simp only [storesOf, List.map_cons, nodupOk, Bool.and_eq_true, Bool.not_eq_true'] at hok
    have hne : ∀ y ∈ r, y.st ≠ x.st := fun y hy e => by
      have : (r.map (·.st)).contains x.st = true := List.contains_iff_mem.2 (List.mem_map.2 ⟨y, hy, e⟩)
      rw [hok.1] at this; cases this
    intro v' hv' he
    rcases List.mem_cons.1 hv with rfl | h1
    · rcases List.mem_cons.1 hv' with rfl | h2
      · rfl
      · exact absurd he.symm (hne _ h2)
    · rcases List.mem_cons.1 hv' with rfl | h2
      · exact absurd he (hne _ h1)
      · exact st_unique hok.2 v h1 v' h2 he
theorem alloc_unique : ∀ {vars : List Var}, allocsOk ops (allocsOf vars) = true → ∀ v ∈ vars, ∀ v' ∈ vars, ∀ k, v.alloc = some k → v'.alloc = some k → v = v'
  | [], _, _, h => by cases h
  | x :: r, hok, v, hv => by
    intro v' hv' k hk hk'
    have hr : allocsOk ops (allocsOf r) = true ∧ ∀ y ∈ r, ∀ j, x.alloc = some j → y.alloc ≠ some j := by
      cases hx : x.alloc with
      | none =>
        have : allocsOf (x :: r) = allocsOf r := by simp [allocsOf, hx]
        rw [this] at hok
        exact ⟨hok, fun y _ j h => by cases h⟩
      | some j0 =>
        have : allocsOf (x :: r) = j0 :: allocsOf r := by simp [allocsOf, hx]
        rw [this] at hok
        simp only [allocsOk, Bool.and_eq_true, List.all_eq_true] at hok
        refine ⟨hok.2, fun y hy j h hyj => ?_⟩
        cases h
        have := (hok.1 j0 (mem_allocs hy hyj)).1
        simp at this
    rcases List.mem_cons.1 hv with rfl | h1
    · rcases List.mem_cons.1 hv' with rfl | h2
      · rfl
      · exact absurd hk' (hr.2 v' h2 k hk)
    · rcases List.mem_cons.1 hv' with rfl | h2
      · exact absurd hk (hr.2 v h1 k hk')
      · exact alloc_unique hr.1 v h1 v' h2 k hk hk'

/-- The pointers to the new variables. -/
def putVars (ops : Array Oper) (gs : Nat → Nat) : List Nat → Act → Act
  | [], a => a
  | k :: r, a => putVars ops gs r (a.put (dstOf ops k) (.pointer (some ⟨gs k, 0, none⟩)))
theorem Has.vars {a0 : Act} {gs : Nat → Nat} : ∀ {ks : List Nat} {a : Act} {M : Nat → Value → Prop}, Has ops a0 M a → allocsOk ops ks = true → (∀ j u t, M j u → ∀ k ∈ ks, dstOf ops k = some t → dstOf ops j ≠ some t) →
    Has ops a0 (fun j u => M j u ∨ (j ∈ ks ∧ u = .pointer (some ⟨gs j, 0, none⟩))) (putVars ops gs ks a)
  | [], a, M, h, _, _ => ⟨h.defers, h.size, fun t j u hm => h.there t j u (hm.resolve_right fun ⟨h, _⟩ => by cases h), fun t ht => h.else_ t fun j u hm => ht j u (.inl hm)⟩
  | x :: r, a, M, h, hok, hd => by
    simp only [allocsOk, Bool.and_eq_true, List.all_eq_true] at hok
    obtain ⟨hx, hr⟩ := hok
    have h1 : Has ops a0 (fun j u => M j u ∨ (j = x ∧ u = .pointer (some ⟨gs x, 0, none⟩))) (a.put (dstOf ops x) (.pointer (some ⟨gs x, 0, none⟩))) :=
      h.put (fun j u t hm ht => hd j u t hm x (List.mem_cons_self ..) ht) fun _ _ => Iff.rfl
    have h2 := Has.vars (gs := gs) h1 hr (fun j u t hm k hkr ht => by
      rcases hm with hm | ⟨rfl, rfl⟩
      · exact hd j u t hm k (List.mem_cons_of_mem _ hkr) ht
      · intro e
        exact dstsApart_of (hx k hkr).2 e ht)
    have hiff : ∀ j u, ((M j u ∨ (j = x ∧ u = .pointer (some ⟨gs x, 0, none⟩))) ∨ (j ∈ r ∧ u = .pointer (some ⟨gs j, 0, none⟩))) ↔ (M j u ∨ (j ∈ x :: r ∧ u = .pointer (some ⟨gs j, 0, none⟩))) := fun j u => by
      constructor
      · rintro ((h | ⟨rfl, rfl⟩) | ⟨hm, rfl⟩)
        · exact .inl h
        · exact .inr ⟨List.mem_cons_self .., rfl⟩
        · exact .inr ⟨List.mem_cons_of_mem _ hm, rfl⟩
      · rintro (h | ⟨hm, rfl⟩)
        · exact .inl (.inl h)
        · rcases List.mem_cons.1 hm with rfl | hm
          · exact .inl (.inr ⟨rfl, rfl⟩)
          · exact .inr ⟨hm, rfl⟩
    exact ⟨h2.defers, h2.size, fun t j u hm => h2.there t j u ((hiff j u).2 hm), fun t ht => h2.else_ t fun j u hm => ht j u ((hiff j u).1 hm)⟩

/-- What a store does, in the region's last state. -/
def StoreOp (P : Program) (ops : Array Oper) (aF : (Nat → Nat) → Act) (v : Var) : Prop :=
  ∃ o T x y, ops[v.st]? = some o ∧ o.guard = none ∧ o.dst = none ∧ o.op = .store T x y ∧ (∀ gs, (aF gs).eval x = .pointer (some ⟨v.g gs, 0, none⟩)) ∧ (∀ gs, (aF gs).eval y = .agg v.c.toArray) ∧
    (P.info? T).map (·.size) = some v.c.toArray.size ∧ v.z.toArray.size = v.c.toArray.size ∧ v.c.toArray.all (·.oneCell') = true

/-- Where the region stands. -/
structure StandsV (ops : Array Oper) (S : World → Prop) (B : Nat) (vs : List (Nat × Value)) (vars : List Var) (a0 : Act) (gs : Nat → Nat) (L : Array Bool) (a : Act) (w : World) : Prop where
  has : Has ops a0 (fun j u => L.getD j false = true ∧ ((j, u) ∈ vs ∨ (j ∈ allocsOf vars ∧ u = .pointer (some ⟨gs j, 0, none⟩)))) a
  met : S w
  new : ∀ v ∈ vars, ∀ k, v.alloc = some k → L.getD k false = true → B ≤ gs k
  rows : ∀ v ∈ vars, (∀ k, v.alloc = some k → L.getD k false = true) → Row w (v.g gs) v.T (if L.getD v.st false = true then v.c else v.z)
  apart : ∀ v ∈ vars, ∀ v' ∈ vars, (∀ k, v.alloc = some k → L.getD k false = true) → (∀ k, v'.alloc = some k → L.getD k false = true) → v.st ≠ v'.st → v.g gs ≠ v'.g gs
  size : L.size = ops.size
  down : ∀ i o, ops[i]? = some o → L.getD i false = true → ∀ e ∈ o.after, Region.binds .any e = true → L.getD e.on false = true

theorem vars_all {B : Nat} {vs : List (Nat × Value)} {vars : List Var} {a0 aD : Act}
    (hD : Dets P ops S vs a0 aD) (hA : ∀ v ∈ vars, ∀ k, v.alloc = some k → AllocOp P ops ⟨k, v.T, v.z⟩) (hS : ∀ v ∈ vars, StoreOp P ops (fun gs => putVars ops gs (allocsOf vars) aD) v)
    (hk1 : detsOk ops (allocsOf vars) (vs.map (·.1)) = true) (hk2 : allocsOk ops (allocsOf vars) = true)
    (hk3 : coverOk ops (vs.map (·.1) ++ allocsOf vars) (storesOf vars) = true) (hk4 : dstsIn ops a0.tmps.size = true) (hns : Region.noSelect ops = true) (hk5 : nodupOk (storesOf vars) = true)
    (hSB : ∀ w w', S w → Below w.heap.size w w' → S w') (hSR : ∀ w g cs, S w → (B ≤ g ∨ ∃ v ∈ vars, v.alloc = none ∧ v.blk = g) → S (w.setRow g cs)) (hB : ∀ w, S w → B ≤ w.heap.size)
    (hend : ∀ (gs : Nat → Nat) w, S w → (∀ v ∈ vars, ∀ k, v.alloc = some k → B ≤ gs k) → (∀ v ∈ vars, Row w (v.g gs) v.T v.c) → (∀ v ∈ vars, ∀ v' ∈ vars, v.st ≠ v'.st → v.g gs ≠ v'.g gs) →
      Q .normal (putVars ops gs (allocsOf vars) aD) w) :
    ∀ (fuel : Nat) (L : Array Bool) (a : Act) (w : World) (gs : Nat → Nat), StandsV ops S B vs vars a0 gs L a w → cnt ops L ≤ fuel → wpAny P .any ops Q fuel L a w := by
  have hall := hD.all (a0 := a0) (M := fun _ _ => False) (Has.start a0) hk1 (fun _ _ _ _ _ h => h.elim) (fun _ _ _ _ h => h.elim) (fun _ _ _ _ h => h.elim)
  obtain ⟨hHD, hstep⟩ := hall
  simp only [coverOk, Bool.and_eq_true, List.all_eq_true, List.mem_range] at hk3
  obtain ⟨⟨⟨⟨hcov, hord⟩, hlt⟩, hlts⟩, hseen⟩ := hk3
  have hord' : ∀ i o, ops[i]? = some o → ∀ e ∈ o.after, Region.binds .any e = true → e.on < i := fun i o ho e he hb => by
    have h1 := hord i (Array.getElem?_eq_some_iff.1 ho).1
    simp only [ho, Option.map_some, Option.getD_some, Array.all_eq_true_iff_forall_mem] at h1
    have h2 := h1 e he
    simpa [hb] using h2
  have hlt' : ∀ i ∈ vs.map (·.1) ++ allocsOf vars, i < ops.size := fun i hi => by simpa using (hlt i hi).1
  have hnst : ∀ i ∈ vs.map (·.1) ++ allocsOf vars, i ∉ storesOf vars := fun i hi hs => by
    have h1 := (hlt i hi).2
    rw [List.contains_iff_mem.2 hs] at h1
    cases h1
  have hcov' : ∀ i, i < ops.size → i ∈ vs.map (·.1) ++ allocsOf vars ∨ i ∈ storesOf vars := fun i hi => by
    rcases Bool.or_eq_true_iff.1 (hcov i hi) with h | h
    · exact .inl (List.contains_iff_mem.1 h)
    · exact .inr (List.contains_iff_mem.1 h)
  have hfin : ∀ gs : Nat → Nat, Has ops a0 (fun j u => (False ∨ (j, u) ∈ vs) ∨ (j ∈ allocsOf vars ∧ u = .pointer (some ⟨gs j, 0, none⟩))) (putVars ops gs (allocsOf vars) aD) := fun gs =>
    hHD.vars hk2 fun j u t hj k hk ht => by
      have := detsOk_allocs hk1 j (List.mem_map.2 ⟨(j, u), hj.resolve_left id, rfl⟩) k hk
      intro e
      exact dstsApart_of this.2.1 e ht
  have hready : ∀ (L : Array Bool), L.size = ops.size → ∀ x, x < ops.size → L.getD x true = false → Region.ready .any ops L ≠ [] := by
    intro L hs x
    induction x using Nat.strongRecOn with
    | _ x ihx =>
      intro hx hu hnil
      by_cases hr : ∀ e ∈ (ops[x]'hx).after, Region.binds .any e = true → L.getD e.on false = true
      · have : x ∈ Region.ready .any ops L := mem_ready.2 ⟨hu, ops[x], Array.getElem?_eq_getElem hx, hr⟩
        rw [hnil] at this
        cases this
      · obtain ⟨e, he⟩ := Classical.not_forall.mp hr
        obtain ⟨he, hb⟩ := Classical.not_imp.mp he
        obtain ⟨hb, hf⟩ := Classical.not_imp.mp hb
        have h1 := hord' x _ (Array.getElem?_eq_getElem hx) e he hb
        have h2 : e.on < ops.size := by omega
        exact ihx e.on h1 h2 (by rw [getD_tf (by rw [hs]; exact h2)]; simpa using hf) hnil
  -- all are listed
  have hdone : ∀ (L : Array Bool) (a : Act) (w : World) (gs : Nat → Nat), StandsV ops S B vs vars a0 gs L a w → (∀ x, x < ops.size → L.getD x true = true) → Q .normal a w := by
    intro L a w gs hI hfull
    have hf : ∀ x, x < ops.size → L.getD x false = true := fun x hx => by rw [← getD_tf (by rw [hI.size]; exact hx)]; exact hfull x hx
    have hin : ∀ v ∈ vars, ∀ k, v.alloc = some k → L.getD k false = true := fun v hv k hk => hf k (hlt' k (List.mem_append_right _ (mem_allocs hv hk)))
    have hst : ∀ v ∈ vars, L.getD v.st false = true := fun v hv => hf _ (by simpa using hlts v.st (List.mem_map.2 ⟨v, hv, rfl⟩))
    have hiff : ∀ j u, (L.getD j false = true ∧ ((j, u) ∈ vs ∨ (j ∈ allocsOf vars ∧ u = .pointer (some ⟨gs j, 0, none⟩)))) ↔ ((False ∨ (j, u) ∈ vs) ∨ (j ∈ allocsOf vars ∧ u = .pointer (some ⟨gs j, 0, none⟩))) := fun j u => by
      rw [false_or]
      refine ⟨fun h => h.2, fun h => ⟨?_, h⟩⟩
      rcases h with h | ⟨hm, _⟩
      · exact hf j (hlt' j (List.mem_append_left _ (List.mem_map.2 ⟨(j, u), h, rfl⟩)))
      · exact hf j (hlt' j (List.mem_append_right _ hm))
    have h1 := hI.has
    have ha : a = putVars ops gs (allocsOf vars) aD := Has.eq (M := fun j u => (False ∨ (j, u) ∈ vs) ∨ (j ∈ allocsOf vars ∧ u = .pointer (some ⟨gs j, 0, none⟩)))
      ⟨h1.defers, h1.size, fun t j u hm => h1.there t j u ((hiff j u).2 hm), fun t ht => h1.else_ t fun j u hm => ht j u ((hiff j u).1 hm)⟩ (hfin gs)
    rw [ha]
    exact hend gs w hI.met (fun v hv k hk => hI.new v hv k hk (hin v hv k hk)) (fun v hv => by have := hI.rows v hv (hin v hv); rwa [if_pos (hst v hv)] at this)
      (fun v hv v' hv' hne => hI.apart v hv v' hv' (hin v hv) (hin v' hv') hne)
  have hdec : ∀ (L : Array Bool), L.size = ops.size → (∀ x, x < ops.size → L.getD x true = true) ∨ ∃ x, x < ops.size ∧ L.getD x true = false := by
    intro L _
    by_cases h : ∀ x, x < ops.size → L.getD x true = true
    · exact .inl h
    · obtain ⟨x, hx⟩ := Classical.not_forall.mp h
      obtain ⟨hx, hf⟩ := Classical.not_imp.mp hx
      exact .inr ⟨x, hx, by simpa using hf⟩
  have hnil : ∀ (L : Array Bool), (∀ x, x < ops.size → L.getD x true = true) → Region.ready .any ops L = [] := fun L hf => by
    refine List.eq_nil_iff_forall_not_mem.2 fun i hi => ?_
    obtain ⟨h1, o, ho, _⟩ := mem_ready.1 hi
    rw [hf i (Array.getElem?_eq_some_iff.1 ho).1] at h1
    cases h1
  intro fuel
  induction fuel with
  | zero =>
    intro L a w gs hI hc
    rcases hdec L hI.size with hfull | ⟨x, h1, h2⟩
    · exact ⟨hnil L hfull, hdone L a w gs hI hfull⟩
    · have := cnt_pos h1 h2
      omega
  | succ fuel ih =>
    intro L a w gs hI hc
    rcases hdec L hI.size with hfull | ⟨x0, hx0, hu0⟩
    · exact ⟨fun _ => hdone L a w gs hI hfull, fun i hi => by rw [hnil L hfull] at hi; cases hi⟩
    refine ⟨fun h => absurd h (hready L hI.size x0 hx0 hu0), fun i hi => ?_⟩
    obtain ⟨hun, o, ho, hwait⟩ := mem_ready.1 hi
    have hisz : i < ops.size := (Array.getElem?_eq_some_iff.1 ho).1
    have hiL : i < L.size := by rw [hI.size]; exact hisz
    have hunf : L.getD i false = false := by rw [← getD_tf hiL]; exact hun
    have hdo : dstOf ops i = o.dst := by simp [dstOf, ho]
    have hset : ∀ j, (L.setIfInBounds i true).getD j false = true ↔ L.getD j false = true ∨ j = i := fun j => by
      by_cases e : j = i
      · subst e; simp [hiL]
      · rw [getD_set_ne false (Ne.symm e)]; simp [e]
    have hdown' : ∀ j oj, ops[j]? = some oj → (L.setIfInBounds i true).getD j false = true → ∀ e ∈ oj.after, Region.binds .any e = true → (L.setIfInBounds i true).getD e.on false = true := fun j oj hoj hj e he hb => by
      rw [hset] at hj ⊢
      rcases hj with hj | rfl
      · exact .inl (hI.down j oj hoj hj e he hb)
      · rw [ho] at hoj; cases hoj
        exact .inl (hwait e he hb)
    have hcnt : cnt ops (L.setIfInBounds i true) ≤ fuel := by
      have := cnt_set hisz hun hI.size
      omega
    have hothers : ∀ j u t, i ∈ vs.map (·.1) ++ allocsOf vars → (L.getD j false = true ∧ ((j, u) ∈ vs ∨ (j ∈ allocsOf vars ∧ u = .pointer (some ⟨gs j, 0, none⟩)))) → dstOf ops i = some t → dstOf ops j ≠ some t := by
      intro j u t hie ⟨hj, hju⟩ ht
      have hne : j ≠ i := fun e => by rw [e, hunf] at hj; cases hj
      rcases List.mem_append.1 hie with hiv | him
      · rcases hju with hv | ⟨hm, _⟩
        · exact detsOk_apart hk1 i hiv j (List.mem_map.2 ⟨(j, u), hv, rfl⟩) (Ne.symm hne) t ht
        · exact dstsApart_of (detsOk_allocs hk1 i hiv j hm).2.1 ht
      · rcases hju with hv | ⟨hm, _⟩
        · intro e
          exact dstsApart_of (detsOk_allocs hk1 j (List.mem_map.2 ⟨(j, u), hv, rfl⟩) i him).2.1 e ht
        · exact allocsOk_apart hk2 i him j hm (Ne.symm hne) t ht
    unfold wpOp
    simp only [ho]
    rcases hcov' i hisz with hie | his
    · have hni : ∀ v ∈ vars, v.st ≠ i := fun v hv e => hnst i hie (e ▸ List.mem_map.2 ⟨v, hv, rfl⟩)
      have hkeep : ∀ v ∈ vars, (L.setIfInBounds i true).getD v.st false = L.getD v.st false := fun v hv => getD_set_ne false (Ne.symm (hni v hv))
      rcases List.mem_append.1 hie with hiv | him
      · -- an operation that gives its value
        obtain ⟨⟨i', v⟩, hiv', rfl⟩ := List.mem_map.1 hiv
        simp only at *
        obtain ⟨o', ai, N, ho', hg, hN, hN1, hN2, hN3⟩ := hstep i' v hiv'
        rw [ho] at ho'
        cases ho'
        have hsame : ∀ t, t ∈ o.looksAt ops → a.tmps[t]? = ai.tmps[t]? := by
          intro t ht
          refine hI.has.congr hN ?_
          by_cases he : ∃ j u, N j u ∧ dstOf ops j = some t
          · obtain ⟨j, u, hnj, hj⟩ := he
            have hw := hN2 j u hnj (dstSeen_of ho ht hj)
            obtain ⟨e, he, hb, rfl⟩ := waits_spec ho hw
            exact .inl ⟨_, u, ⟨hwait e he hb, .inl ((hN1 _ u hnj).resolve_left id)⟩, hnj, hj⟩
          · have hno : ∀ j u, N j u → dstOf ops j ≠ some t := fun j u hm hj => he ⟨j, u, hm, hj⟩
            refine .inr ⟨fun j u hm hj => ?_, hno⟩
            obtain ⟨hjL, hju⟩ := hm
            have hsn := dstSeen_of ho ht hj
            rcases hju with hv | ⟨hm, _⟩
            · rcases hN3 j u (.inr hv) hsn with h | h
              · exact hno j u h hj
              · have hjs : j < ops.size := hlt' j (List.mem_append_left _ (List.mem_map.2 ⟨(j, u), hv, rfl⟩))
                obtain ⟨e, he, hb, h1⟩ := waits_spec (Array.getElem?_eq_getElem hjs) h
                have := hI.down j _ (Array.getElem?_eq_getElem hjs) hjL e he hb
                rw [h1, hunf] at this
                cases this
            · have := (detsOk_allocs hk1 i' hiv j hm).2.2
              rw [hsn] at this
              cases this
        have hmk : ∀ k ∈ allocsOf vars, k ≠ i' := fun k hk => (detsOk_allocs hk1 i' hiv k hk).1
        have hhas : Has ops a0 (fun j u => (L.setIfInBounds i' true).getD j false = true ∧ ((j, u) ∈ vs ∨ (j ∈ allocsOf vars ∧ u = .pointer (some ⟨gs j, 0, none⟩)))) (a.put o.dst v) := by
          refine hdo ▸ hI.has.put (fun j u t hm ht => hothers j u t hie hm ht) fun j u => ?_
          rw [hset]
          constructor
          · rintro ⟨hj | rfl, hju⟩
            · exact .inl ⟨hj, hju⟩
            · rcases hju with hv | ⟨hm, _⟩
              · exact .inr ⟨rfl, detsOk_unique hk1 hv hiv'⟩
              · exact absurd rfl (hmk j hm)
          · rintro (⟨hj, hju⟩ | ⟨rfl, rfl⟩)
            · exact ⟨.inl hj, hju⟩
            · exact ⟨.inr rfl, .inl hiv'⟩
        have hback : ∀ v ∈ vars, (∀ k, v.alloc = some k → (L.setIfInBounds i' true).getD k false = true) → ∀ k, v.alloc = some k → L.getD k false = true := fun v hv h k hk => ((hset _).1 (h k hk)).resolve_right (hmk k (mem_allocs hv hk))
        have hnext : ∀ w', Below w.heap.size w w' → wpAny P .any ops Q fuel (L.setIfInBounds i' true) (a.put o.dst v) w' := fun w' hb => by
          refine ih _ _ w' gs ⟨hhas, hSB w w' hI.met hb, fun v hv k hk hj => hI.new v hv k hk (((hset _).1 hj).resolve_right (hmk k (mem_allocs hv hk))), fun v hv hj => ?_, fun v hv v' hv' hj hj' => hI.apart v hv v' hv' (hback v hv hj) (hback v' hv' hj'), by simp [hI.size], hdown'⟩ hcnt
          rw [hkeep v hv]
          exact (hI.rows v hv (hback v hv hj)).belowAll hb
        rw [wanted_same hsame]
        rcases hg with ⟨hw, hg⟩ | ⟨hw, rfl⟩
        · rw [if_pos hw]
          refine .inl ?_
          have hd : ∀ d, o.dst = some d → d < ai.tmps.size := fun d hd => by
            have h1 := (List.all_eq_true.1 hk4) i' (List.mem_range.2 hisz)
            rw [hdo, hd] at h1
            rw [hN.size]
            simpa using h1
          refine Oper.wp_mono (fun a' w' h => ?_) (hg.wp (Q := Q) (exec_same (Region.noSelect_spec hns i' o · · ho) hsame) hd hI.met)
          obtain ⟨rfl, hb⟩ := h
          exact hnext w' hb
        · rw [if_neg (by rw [hw]; decide)]
          exact hnext w (Below.refl _ _)
      · -- a new variable
        obtain ⟨m, hm, hmk⟩ := List.mem_filterMap.1 him
        obtain ⟨o', ho', hgd, hrun⟩ := hA m hm i hmk
        rw [ho] at ho'
        cases ho'
        have hw : Region.wanted o (yielded ops a.tmps) = true := by simp [Region.wanted, hgd]
        rw [if_pos hw]
        refine .inl ?_
        unfold Oper.wp
        rw [hrun]
        show wpAny P .any ops Q fuel (L.setIfInBounds i true) (a.put o.dst (.pointer (some ⟨w.heap.size, 0, none⟩))) (w.alloc (.cells m.z.toArray m.T))
        have hb : Below w.heap.size w (w.alloc (.cells m.z.toArray m.T)) := (Below.refl _ _).alloc (Nat.le_refl _) _
        have hne : ∀ j, L.getD j false = true → j ≠ i := fun j hj e => by rw [e, hunf] at hj; cases hj
        have hgv : ∀ v : Var, v.alloc ≠ some i → v.g (fun j => if j = i then w.heap.size else gs j) = v.g gs := fun v hv => by
          unfold Var.g
          split
          · rename_i k hk
            exact if_neg fun e => hv (by rw [hk, e])
          · rfl
        have hmg : m.g (fun j => if j = i then w.heap.size else gs j) = w.heap.size := by
          unfold Var.g
          rw [hmk]
          exact if_pos rfl
        have hsl : L.getD m.st false = false := by
          obtain ⟨os, T, x, y, hos, _, _, hop, hex, _⟩ := hS m hm
          have hms : m.st < ops.size := (Array.getElem?_eq_some_iff.1 hos).1
          cases hst : L.getD m.st false with
          | false => rfl
          | true =>
            exfalso
            -- the store looks at the pointer, so it waits
            have hx1 := hex (fun _ => 0)
            have hx2 := hex (fun _ => 1)
            cases x with
            | tmp t =>
              by_cases hdt : dstOf ops i = some t
              · have hsn := dstSeen_of hos (t := t) (List.mem_append_left _ (List.mem_filterMap.2 ⟨.tmp t, by simp [hop, Op.operands], rfl⟩)) hdt
                have h1 := hseen m.st (List.mem_map.2 ⟨m, hm, rfl⟩) i (List.mem_append_right _ him)
                rw [hsn] at h1
                have h2 : waits ops m.st i = true := by simpa using h1
                obtain ⟨e, he, hbn, h3⟩ := waits_spec hos h2
                have := hI.down m.st os hos hst e he hbn
                rw [h3, hunf] at this
                cases this
              · -- else the pointer would be the same in both states
                have e1 : (putVars ops (fun _ => 0) (allocsOf vars) aD).tmps[t]? = (putVars ops (fun j => if j = i then 1 else 0) (allocsOf vars) aD).tmps[t]? := by
                  refine (hfin (fun _ => 0)).congr (hfin (fun j => if j = i then 1 else 0)) ?_
                  by_cases he : ∃ j u, ((False ∨ (j, u) ∈ vs) ∨ (j ∈ allocsOf vars ∧ u = .pointer (some ⟨(fun _ => 0 : Nat → Nat) j, 0, none⟩))) ∧ dstOf ops j = some t
                  · obtain ⟨j, u, hju, hj⟩ := he
                    refine .inl ⟨j, u, hju, ?_, hj⟩
                    rcases hju with h | ⟨h, rfl⟩
                    · exact .inl h
                    · refine .inr ⟨h, ?_⟩
                      have : j ≠ i := fun e => hdt (e ▸ hj)
                      simp [this]
                  · refine .inr ⟨fun j u h hj => he ⟨j, u, h, hj⟩, fun j u h hj => ?_⟩
                    rcases h with h | ⟨h, _⟩
                    · exact he ⟨j, u, .inl h, hj⟩
                    · exact he ⟨j, _, .inr ⟨h, rfl⟩, hj⟩
                have e2 := hex (fun j => if j = i then 1 else 0)
                simp only [Act.eval, Array.getD_eq_getD_getElem?] at hx1 e2
                rw [e1, e2] at hx1
                unfold Var.g at hx1
                rw [hmk] at hx1
                simp at hx1
            | const c => simp only [Act.eval] at hx1 hx2; rw [hx1] at hx2; unfold Var.g at hx2; rw [hmk] at hx2; simp at hx2
            | global c => simp only [Act.eval] at hx1 hx2; rw [hx1] at hx2; unfold Var.g at hx2; rw [hmk] at hx2; simp at hx2
            | func c => simp only [Act.eval] at hx1 hx2; rw [hx1] at hx2; unfold Var.g at hx2; rw [hmk] at hx2; simp at hx2
        refine ih _ _ _ (fun j => if j = i then w.heap.size else gs j) ⟨?_, hSB w _ hI.met hb, fun v hv k hk hj => ?_, fun v hv hj => ?_, fun v hv v' hv' hj hj' hnn => ?_, by simp [hI.size], hdown'⟩ hcnt
        · refine hdo ▸ hI.has.put (fun j u t hm ht => hothers j u t hie hm ht) fun j u => ?_
          rw [hset]
          constructor
          · rintro ⟨hj | rfl, hju⟩
            · left
              refine ⟨hj, ?_⟩
              rcases hju with hv | ⟨hm', he⟩
              · exact .inl hv
              · simp only [if_neg (hne _ hj)] at he
                exact .inr ⟨hm', he⟩
            · right
              refine ⟨rfl, ?_⟩
              rcases hju with hv | ⟨_, he⟩
              · exact absurd rfl (detsOk_allocs hk1 j (List.mem_map.2 ⟨(j, u), hv, rfl⟩) j him).1
              · simpa using he
          · rintro (⟨hj, hju⟩ | ⟨rfl, rfl⟩)
            · refine ⟨.inl hj, ?_⟩
              rcases hju with hv | ⟨hm', he⟩
              · exact .inl hv
              · exact .inr ⟨hm', by simp only [if_neg (hne _ hj)]; exact he⟩
            · exact ⟨.inr rfl, .inr ⟨him, by simp⟩⟩
        · by_cases e : k = i
          · subst e
            simp only [if_true]
            exact hB w hI.met
          · simp only [if_neg e]
            exact hI.new v hv k hk (((hset _).1 hj).resolve_right e)
        · rw [hkeep v hv]
          by_cases e : v.alloc = some i
          · obtain rfl := alloc_unique hk2 v hv m hm i e hmk
            rw [hmg, hsl]
            exact Row.new w _ _
          · rw [hgv v e]
            exact (hI.rows v hv (fun k hk => ((hset _).1 (hj k hk)).resolve_right fun h => e (by rw [hk, h]))).belowAll hb
        · have hold : ∀ v ∈ vars, (∀ k, v.alloc = some k → (L.setIfInBounds i true).getD k false = true) → v.alloc ≠ some i → v.g gs < w.heap.size := fun v hv hj e =>
            (hI.rows v hv (fun k hk => ((hset _).1 (hj k hk)).resolve_right fun h => e (by rw [hk, h]))).lt
          by_cases e : v.alloc = some i <;> by_cases e' : v'.alloc = some i
          · exact absurd (by rw [alloc_unique hk2 v hv v' hv' i e e']) hnn
          · obtain rfl := alloc_unique hk2 v hv m hm i e hmk
            rw [hmg, hgv v' e']
            have := hold v' hv' hj' e'
            omega
          · obtain rfl := alloc_unique hk2 v' hv' m hm i e' hmk
            rw [hmg, hgv v e]
            have := hold v hv hj e
            omega
          · rw [hgv v e, hgv v' e']
            exact hI.apart v hv v' hv' (fun k hk => ((hset _).1 (hj k hk)).resolve_right fun h => e (by rw [hk, h])) (fun k hk => ((hset _).1 (hj' k hk)).resolve_right fun h => e' (by rw [hk, h])) hnn
    · -- a store
      obtain ⟨m, hm, rfl⟩ := List.mem_map.1 his
      obtain ⟨o', T, x, y, ho', hgd, hdn, hop, hex, hey, hi1, hi2, hi3⟩ := hS m hm
      rw [ho] at ho'
      cases ho'
      have hne' : ∀ j, j ∈ vs.map (·.1) ++ allocsOf vars → j ≠ m.st := fun j hj e => hnst j hj (e ▸ his)
      have hw : Region.wanted o (yielded ops a.tmps) = true := by simp [Region.wanted, hgd]
      rw [if_pos hw]
      refine .inl ?_
      have hsame : ∀ t, t ∈ o.looksAt ops → a.tmps[t]? = (putVars ops gs (allocsOf vars) aD).tmps[t]? := by
        intro t ht
        refine hI.has.congr (hfin gs) ?_
        by_cases he : ∃ j u, ((False ∨ (j, u) ∈ vs) ∨ (j ∈ allocsOf vars ∧ u = .pointer (some ⟨gs j, 0, none⟩))) ∧ dstOf ops j = some t
        · obtain ⟨j, u, hju, hj⟩ := he
          have hje : j ∈ vs.map (·.1) ++ allocsOf vars := by
            rcases hju with h | ⟨h, _⟩
            · exact List.mem_append_left _ (List.mem_map.2 ⟨(j, u), h.resolve_left id, rfl⟩)
            · exact List.mem_append_right _ h
          have h1 := hseen m.st his j hje
          rw [dstSeen_of ho ht hj] at h1
          have h2 : waits ops m.st j = true := by simpa using h1
          obtain ⟨e, he, hb, rfl⟩ := waits_spec ho h2
          exact .inl ⟨_, u, ⟨hwait e he hb, by rw [false_or] at hju; exact hju⟩, hju, hj⟩
        · exact .inr ⟨fun j u h hj => he ⟨j, u, by rw [false_or]; exact h.2, hj⟩, fun j u h hj => he ⟨j, u, h, hj⟩⟩
      have hexe := exec_same (Region.noSelect_spec hns m.st o · · ho) hsame
      have hpres : ∀ k, m.alloc = some k → L.getD k false = true := fun k hk => by
        cases hLk : L.getD k false with
        | true => rfl
        | false =>
          exfalso
          have hkm := mem_allocs hm hk
          cases x with
          | tmp t =>
            have hx1 := hex (fun _ => 0)
            by_cases hdt : dstOf ops k = some t
            · have hsn := dstSeen_of ho (t := t) (List.mem_append_left _ (List.mem_filterMap.2 ⟨.tmp t, by simp [hop, Op.operands], rfl⟩)) hdt
              have h1 := hseen m.st his k (List.mem_append_right _ hkm)
              rw [hsn] at h1
              have h2 : waits ops m.st k = true := by simpa using h1
              obtain ⟨e, he, hbn, h3⟩ := waits_spec ho h2
              have := hwait e he hbn
              rw [h3, hLk] at this
              cases this
            · have e1 : (putVars ops (fun _ => 0) (allocsOf vars) aD).tmps[t]? = (putVars ops (fun j => if j = k then 1 else 0) (allocsOf vars) aD).tmps[t]? := by
                refine (hfin (fun _ => 0)).congr (hfin (fun j => if j = k then 1 else 0)) ?_
                by_cases he : ∃ j u, ((False ∨ (j, u) ∈ vs) ∨ (j ∈ allocsOf vars ∧ u = .pointer (some ⟨(fun _ => 0 : Nat → Nat) j, 0, none⟩))) ∧ dstOf ops j = some t
                · obtain ⟨j, u, hju, hj⟩ := he
                  refine .inl ⟨j, u, hju, ?_, hj⟩
                  rcases hju with h | ⟨h, rfl⟩
                  · exact .inl h
                  · refine .inr ⟨h, ?_⟩
                    have : j ≠ k := fun e => hdt (e ▸ hj)
                    simp [this]
                · refine .inr ⟨fun j u h hj => he ⟨j, u, h, hj⟩, fun j u h hj => ?_⟩
                  rcases h with h | ⟨h, _⟩
                  · exact he ⟨j, u, .inl h, hj⟩
                  · exact he ⟨j, _, .inr ⟨h, rfl⟩, hj⟩
              have e2 := hex (fun j => if j = k then 1 else 0)
              simp only [Act.eval, Array.getD_eq_getD_getElem?] at hx1 e2
              rw [e1, e2] at hx1
              unfold Var.g at hx1
              rw [hk] at hx1
              simp at hx1
          | const c => have hx1 := hex (fun _ => 0); have hx2 := hex (fun _ => 1); simp only [Act.eval] at hx1 hx2; rw [hx1] at hx2; unfold Var.g at hx2; rw [hk] at hx2; simp at hx2
          | global c => have hx1 := hex (fun _ => 0); have hx2 := hex (fun _ => 1); simp only [Act.eval] at hx1 hx2; rw [hx1] at hx2; unfold Var.g at hx2; rw [hk] at hx2; simp at hx2
          | func c => have hx1 := hex (fun _ => 0); have hx2 := hex (fun _ => 1); simp only [Act.eval] at hx1 hx2; rw [hx1] at hx2; unfold Var.g at hx2; rw [hk] at hx2; simp at hx2
      have hrow := hI.rows m hm hpres
      have hr2 : Row w (m.g gs) m.T m.z := by rwa [if_neg (by rw [hunf]; decide)] at hrow
      have hat : B ≤ m.g gs ∨ ∃ v ∈ vars, v.alloc = none ∧ v.blk = m.g gs := by
        cases hal : m.alloc with
        | none => exact .inr ⟨m, hm, hal, by simp [Var.g, hal]⟩
        | some k =>
          left
          have := hI.new m hm k hal (hpres k hal)
          simpa [Var.g, hal] using this
      have hrunF : ∀ K : Act → World → Prop, K (a.put o.dst undef) (w.setRow (m.g gs) m.c.toArray) → o.wp P a w K Q := fun K hK => by
        have h1 : o.wp P (putVars ops gs (allocsOf vars) aD) w (fun a' w' => a' = (putVars ops gs (allocsOf vars) aD).put o.dst undef ∧ w' = w.setRow (m.g gs) m.c.toArray) (fun _ _ _ => False) :=
          wp_store_row T x y hop (m.g gs) m.c.toArray (hex gs) (hey gs) m.T _ hr2 hi1 hi2 hi3 ⟨rfl, rfl⟩
        unfold Oper.wp at h1 ⊢
        rw [hexe]
        generalize (execOp (putVars ops gs (allocsOf vars) aD).eval o).run P w = r at *
        rw [hdn] at hK
        cases r with
        | ok nx w' =>
          cases nx <;> simp only [Oper.upon, hdn, Act.put] at h1 ⊢
          case value u => rw [h1.2]; exact hK
          case skip => rw [h1.2]; exact hK
          case defer d =>
            exfalso
            have h2 := congrArg (fun b : Act => b.defers.length) h1.1
            simp at h2
          case enter f args =>
            refine Calls.mono h1 fun e w'' he => ?_
            cases e with
            | returned u => rw [he.2]; exact hK
            | panicked c => exact he.elim
            | outgrown => obtain ⟨_, _, hf⟩ := he; exact hf.elim
          case row row args => exact Rows.mono h1 fun u w'' he => by rw [he.2]; exact hK
        | halt x w' => cases x <;> simp only [Oper.upon] at h1 ⊢
      refine hrunF _ ?_
      rw [hdn]
      show wpAny P .any ops Q fuel (L.setIfInBounds m.st true) a (w.setRow (m.g gs) m.c.toArray)
      have hback : ∀ v ∈ vars, (∀ k, v.alloc = some k → (L.setIfInBounds m.st true).getD k false = true) → ∀ k, v.alloc = some k → L.getD k false = true := fun v hv h k hk =>
        ((hset _).1 (h k hk)).resolve_right (hne' k (List.mem_append_right _ (mem_allocs hv hk)))
      refine ih _ _ _ gs ⟨?_, hSR _ _ _ hI.met hat, fun v hv k hk hj => hI.new v hv k hk (((hset _).1 hj).resolve_right (hne' k (List.mem_append_right _ (mem_allocs hv hk)))), fun v hv hj => ?_, fun v hv v' hv' hj hj' => hI.apart v hv v' hv' (hback v hv hj) (hback v' hv' hj'), by simp [hI.size], hdown'⟩ hcnt
      · have h1 := hI.has
        have hiff : ∀ j u, ((L.setIfInBounds m.st true).getD j false = true ∧ ((j, u) ∈ vs ∨ (j ∈ allocsOf vars ∧ u = .pointer (some ⟨gs j, 0, none⟩)))) ↔ (L.getD j false = true ∧ ((j, u) ∈ vs ∨ (j ∈ allocsOf vars ∧ u = .pointer (some ⟨gs j, 0, none⟩)))) := fun j u => by
          rw [hset]
          refine ⟨fun ⟨h, h'⟩ => ⟨h.resolve_right ?_, h'⟩, fun ⟨h, h'⟩ => ⟨.inl h, h'⟩⟩
          rcases h' with h' | ⟨h', _⟩
          · exact hne' j (List.mem_append_left _ (List.mem_map.2 ⟨(j, u), h', rfl⟩))
          · exact hne' j (List.mem_append_right _ h')
        exact ⟨h1.defers, h1.size, fun t j u hm => h1.there t j u ((hiff j u).1 hm), fun t ht => h1.else_ t fun j u hm => ht j u ((hiff j u).2 hm)⟩
      · by_cases e : v.st = m.st
        · obtain rfl := st_unique hk5 v hv m hm e
          rw [if_pos ((hset _).2 (.inr rfl))]
          exact setRow_heap w _ _ _ _ _ hr2
        · have h1 := hI.rows v hv (hback v hv hj)
          have h2 : (L.setIfInBounds m.st true).getD v.st false = L.getD v.st false := getD_set_ne false (Ne.symm e)
          rw [h2]
          exact (setRow_other w (m.g gs) (v.g gs) _ (hI.apart v hv m hm (hback v hv hj) hpres e)).trans h1

/-- A region that draws its order, and stores whole rows into variables: what it does, whatever the order. -/
theorem wp_vars {id : Nat} {B : Nat} {vs : List (Nat × Value)} {vars : List Var} {a0 aD : Act} {w0 : World} (hm : P.follows .mixedOrders = true) (hS0 : S w0.drew)
    (hD : Dets P ops S vs a0 aD) (hA : ∀ v ∈ vars, ∀ k, v.alloc = some k → AllocOp P ops ⟨k, v.T, v.z⟩) (hS : ∀ v ∈ vars, StoreOp P ops (fun gs => putVars ops gs (allocsOf vars) aD) v)
    (hk : (detsOk ops (allocsOf vars) (vs.map (·.1)) && allocsOk ops (allocsOf vars) && coverOk ops (vs.map (·.1) ++ allocsOf vars) (storesOf vars) && dstsIn ops a0.tmps.size && Region.noSelect ops && nodupOk (storesOf vars)) = true)
    (hSB : ∀ w w', S w → Below w.heap.size w w' → S w') (hSR : ∀ w g cs, S w → (B ≤ g ∨ ∃ v ∈ vars, v.alloc = none ∧ v.blk = g) → S (w.setRow g cs)) (hB : ∀ w, S w → B ≤ w.heap.size)
    (hblk : ∀ v ∈ vars, ∀ v' ∈ vars, v.alloc = none → v'.alloc = none → v.st ≠ v'.st → v.blk ≠ v'.blk) (hrow : ∀ v ∈ vars, v.alloc = none → Row w0.drew v.blk v.T v.z)
    (hend : ∀ (gs : Nat → Nat) w, S w → (∀ v ∈ vars, ∀ k, v.alloc = some k → B ≤ gs k) → (∀ v ∈ vars, Row w (v.g gs) v.T v.c) → (∀ v ∈ vars, ∀ v' ∈ vars, v.st ≠ v'.st → v.g gs ≠ v'.g gs) →
      Q .normal (putVars ops gs (allocsOf vars) aD) w) : (Code.region id ops true).wp P Q a0 w0 := by
  simp only [Bool.and_eq_true] at hk
  obtain ⟨⟨⟨⟨⟨k1, k2⟩, k3⟩, k4⟩, k5⟩, k6⟩ := hk
  refine wp_region_any hm ?_
  have hnone : ∀ j, (Array.replicate ops.size false).getD j false = false := fun j => by
    by_cases h : j < ops.size <;> simp [h]
  have hn : ∀ v : Var, (∀ k, v.alloc = some k → (Array.replicate ops.size false).getD k false = true) → v.alloc = none := fun v h => by
    cases hv : v.alloc with
    | none => rfl
    | some k => have := h k hv; rw [hnone] at this; cases this
  have hg : ∀ v : Var, v.alloc = none → v.g (fun _ => 0) = v.blk := fun v h => by simp [Var.g, h]
  refine vars_all hD hA hS k1 k2 k3 k4 k5 k6 hSB hSR hB hend ops.size _ a0 _ (fun _ => 0) ⟨?_, hS0, fun v _ k _ h => ?_, fun v hv h => ?_, fun v hv v' hv' h h' hne => ?_, by simp, fun i o _ h => ?_⟩ ?_
  · exact ⟨rfl, rfl, fun t j u h => (by rw [hnone] at h; cases h.1), fun _ _ => rfl⟩
  · rw [hnone] at h; cases h
  · rw [hnone, hg v (hn v h)]
    exact hrow v hv (hn v h)
  · rw [hg v (hn v h), hg v' (hn v' h')]
    exact hblk v hv v' hv' (hn v h) (hn v' h') hne
  · rw [hnone] at h; cases h
  · unfold cnt
    exact Nat.le_trans List.countP_le_length (by simp)

/-- The same, two variables being new. -/
theorem wp_vars_two {id : Nat} {B : Nat} {vs : List (Nat × Value)} {a0 aD : Act} {w0 : World} {k1 k2 s1 s2 : Nat} {o1 o2 : Oper} {T1 T2 L1 L2 : TypeId} {z1 z2 c1 c2 : List Value} {x1 y1 x2 y2 : Operand} (hm : P.follows .mixedOrders = true) (hS0 : S w0.drew)
    (hSB : ∀ w w', S w → Below w.heap.size w w' → S w') (hSR : ∀ w g cs, S w → B ≤ g → S (w.setRow g cs)) (hB : ∀ w, S w → B ≤ w.heap.size)
    (hD : Dets P ops S vs a0 aD) (hA1 : AllocOp P ops ⟨k1, T1, z1⟩) (hA2 : AllocOp P ops ⟨k2, T2, z2⟩)
    (hk : (detsOk ops [k1, k2] (vs.map (·.1)) && allocsOk ops [k1, k2] && coverOk ops (vs.map (·.1) ++ [k1, k2]) [s1, s2] && dstsIn ops a0.tmps.size && Region.noSelect ops && nodupOk [s1, s2]) = true) (hss : s1 ≠ s2)
    (h1 : ops[s1]? = some o1) (h2 : ops[s2]? = some o2) (g1 : o1.guard = none) (g2 : o2.guard = none) (d1 d2 : Option Tmp) (hd1 : dstOf ops k1 = d1) (hd2 : dstOf ops k2 = d2)
    (hst1 : o1.op = .store L1 x1 y1) (hst2 : o2.op = .store L2 x2 y2) (hn1 : o1.dst = none) (hn2 : o2.dst = none)
    (hx1 : ∀ p q : Nat, ((aD.put d1 (.pointer (some ⟨p, 0, none⟩))).put d2 (.pointer (some ⟨q, 0, none⟩))).eval x1 = .pointer (some ⟨p, 0, none⟩)) (hy1 : ∀ p q : Nat, ((aD.put d1 (.pointer (some ⟨p, 0, none⟩))).put d2 (.pointer (some ⟨q, 0, none⟩))).eval y1 = .agg c1.toArray)
    (hx2 : ∀ p q : Nat, ((aD.put d1 (.pointer (some ⟨p, 0, none⟩))).put d2 (.pointer (some ⟨q, 0, none⟩))).eval x2 = .pointer (some ⟨q, 0, none⟩)) (hy2 : ∀ p q : Nat, ((aD.put d1 (.pointer (some ⟨p, 0, none⟩))).put d2 (.pointer (some ⟨q, 0, none⟩))).eval y2 = .agg c2.toArray)
    (hi1 : (P.info? L1).map (·.size) = some c1.toArray.size) (hz1 : z1.toArray.size = c1.toArray.size) (ho1 : c1.toArray.all (·.oneCell') = true) (hi2 : (P.info? L2).map (·.size) = some c2.toArray.size) (hz2 : z2.toArray.size = c2.toArray.size) (ho2 : c2.toArray.all (·.oneCell') = true)
    (hend : ∀ (p q : Nat) w, S w → B ≤ p → B ≤ q → p ≠ q → Row w p T1 c1 → Row w q T2 c2 → Q .normal ((aD.put d1 (.pointer (some ⟨p, 0, none⟩))).put d2 (.pointer (some ⟨q, 0, none⟩))) w) : (Code.region id ops true).wp P Q a0 w0 := by
  refine wp_vars (B := B) (vars := [⟨some k1, 0, T1, z1, c1, s1⟩, ⟨some k2, 0, T2, z2, c2, s2⟩]) hm hS0 hD ?_ ?_ hk hSB ?_ hB ?_ ?_ ?_
  · intro v hv k hk'
    rcases List.mem_cons.1 hv with rfl | hv
    · cases hk'; exact hA1
    · obtain rfl := List.mem_singleton.1 hv
      cases hk'; exact hA2
  · have hp : ∀ gs : Nat → Nat, putVars ops gs (allocsOf [⟨some k1, 0, T1, z1, c1, s1⟩, ⟨some k2, 0, T2, z2, c2, s2⟩]) aD = (aD.put d1 (.pointer (some ⟨gs k1, 0, none⟩))).put d2 (.pointer (some ⟨gs k2, 0, none⟩)) := fun gs => by
      simp only [allocsOf, List.filterMap_cons, List.filterMap_nil, putVars, hd1, hd2]
    intro v hv
    rcases List.mem_cons.1 hv with rfl | hv
    · exact ⟨o1, L1, x1, y1, h1, g1, hn1, hst1, fun gs => (congrArg (fun b : Act => b.eval x1) (hp gs)).trans (hx1 _ _), fun gs => (congrArg (fun b : Act => b.eval y1) (hp gs)).trans (hy1 _ _), hi1, hz1, ho1⟩
    · obtain rfl := List.mem_singleton.1 hv
      exact ⟨o2, L2, x2, y2, h2, g2, hn2, hst2, fun gs => (congrArg (fun b : Act => b.eval x2) (hp gs)).trans (hx2 _ _), fun gs => (congrArg (fun b : Act => b.eval y2) (hp gs)).trans (hy2 _ _), hi2, hz2, ho2⟩
  · intro w g cs hS hg
    refine hSR w g cs hS (hg.resolve_right ?_)
    rintro ⟨v, hv, hva, _⟩
    rcases List.mem_cons.1 hv with rfl | hv
    · cases hva
    · obtain rfl := List.mem_singleton.1 hv
      cases hva
  · intro v hv v' hv' hva
    rcases List.mem_cons.1 hv with rfl | hv
    · cases hva
    · obtain rfl := List.mem_singleton.1 hv
      cases hva
  · intro v hv hva
    rcases List.mem_cons.1 hv with rfl | hv
    · cases hva
    · obtain rfl := List.mem_singleton.1 hv
      cases hva
  · intro gs w hS' hnew hrows hap
    have hp : putVars ops gs (allocsOf [⟨some k1, 0, T1, z1, c1, s1⟩, ⟨some k2, 0, T2, z2, c2, s2⟩]) aD = (aD.put d1 (.pointer (some ⟨gs k1, 0, none⟩))).put d2 (.pointer (some ⟨gs k2, 0, none⟩)) := by
      simp only [allocsOf, List.filterMap_cons, List.filterMap_nil, putVars, hd1, hd2]
    rw [hp]
    exact hend _ _ w hS' (hnew ⟨some k1, 0, T1, z1, c1, s1⟩ (by simp) k1 rfl) (hnew ⟨some k2, 0, T2, z2, c2, s2⟩ (by simp) k2 rfl) (hap ⟨some k1, 0, T1, z1, c1, s1⟩ (by simp) ⟨some k2, 0, T2, z2, c2, s2⟩ (by simp) hss)
      (hrows ⟨some k1, 0, T1, z1, c1, s1⟩ (by simp)) (hrows ⟨some k2, 0, T2, z2, c2, s2⟩ (by simp))

/-- The same, three variables being new. -/
theorem wp_vars_three {id : Nat} {B : Nat} {vs : List (Nat × Value)} {a0 aD : Act} {w0 : World} {k1 k2 k3 s1 s2 s3 : Nat} {o1 o2 o3 : Oper} {T1 T2 T3 L1 L2 L3 : TypeId} {z1 z2 z3 c1 c2 c3 : List Value} {x1 y1 x2 y2 x3 y3 : Operand} (hm : P.follows .mixedOrders = true) (hS0 : S w0.drew)
    (hSB : ∀ w w', S w → Below w.heap.size w w' → S w') (hSR : ∀ w g cs, S w → B ≤ g → S (w.setRow g cs)) (hB : ∀ w, S w → B ≤ w.heap.size)
    (hD : Dets P ops S vs a0 aD) (hA1 : AllocOp P ops ⟨k1, T1, z1⟩) (hA2 : AllocOp P ops ⟨k2, T2, z2⟩) (hA3 : AllocOp P ops ⟨k3, T3, z3⟩)
    (hk : (detsOk ops [k1, k2, k3] (vs.map (·.1)) && allocsOk ops [k1, k2, k3] && coverOk ops (vs.map (·.1) ++ [k1, k2, k3]) [s1, s2, s3] && dstsIn ops a0.tmps.size && Region.noSelect ops && nodupOk [s1, s2, s3]) = true) (hs12 : s1 ≠ s2) (hs13 : s1 ≠ s3) (hs23 : s2 ≠ s3)
    (h1 : ops[s1]? = some o1) (h2 : ops[s2]? = some o2) (h3 : ops[s3]? = some o3) (g1 : o1.guard = none) (g2 : o2.guard = none) (g3 : o3.guard = none) (d1 d2 d3 : Option Tmp) (hd1 : dstOf ops k1 = d1) (hd2 : dstOf ops k2 = d2) (hd3 : dstOf ops k3 = d3)
    (hst1 : o1.op = .store L1 x1 y1) (hn1 : o1.dst = none) (hst2 : o2.op = .store L2 x2 y2) (hn2 : o2.dst = none) (hst3 : o3.op = .store L3 x3 y3) (hn3 : o3.dst = none)
    (hx1 : ∀ p q r : Nat, (((aD.put d1 (.pointer (some ⟨p, 0, none⟩))).put d2 (.pointer (some ⟨q, 0, none⟩))).put d3 (.pointer (some ⟨r, 0, none⟩))).eval x1 = .pointer (some ⟨p, 0, none⟩)) (hy1 : ∀ p q r : Nat, (((aD.put d1 (.pointer (some ⟨p, 0, none⟩))).put d2 (.pointer (some ⟨q, 0, none⟩))).put d3 (.pointer (some ⟨r, 0, none⟩))).eval y1 = .agg c1.toArray)
    (hx2 : ∀ p q r : Nat, (((aD.put d1 (.pointer (some ⟨p, 0, none⟩))).put d2 (.pointer (some ⟨q, 0, none⟩))).put d3 (.pointer (some ⟨r, 0, none⟩))).eval x2 = .pointer (some ⟨q, 0, none⟩)) (hy2 : ∀ p q r : Nat, (((aD.put d1 (.pointer (some ⟨p, 0, none⟩))).put d2 (.pointer (some ⟨q, 0, none⟩))).put d3 (.pointer (some ⟨r, 0, none⟩))).eval y2 = .agg c2.toArray)
    (hx3 : ∀ p q r : Nat, (((aD.put d1 (.pointer (some ⟨p, 0, none⟩))).put d2 (.pointer (some ⟨q, 0, none⟩))).put d3 (.pointer (some ⟨r, 0, none⟩))).eval x3 = .pointer (some ⟨r, 0, none⟩)) (hy3 : ∀ p q r : Nat, (((aD.put d1 (.pointer (some ⟨p, 0, none⟩))).put d2 (.pointer (some ⟨q, 0, none⟩))).put d3 (.pointer (some ⟨r, 0, none⟩))).eval y3 = .agg c3.toArray)
    (hi1 : (P.info? L1).map (·.size) = some c1.toArray.size) (hz1 : z1.toArray.size = c1.toArray.size) (ho1 : c1.toArray.all (·.oneCell') = true) (hi2 : (P.info? L2).map (·.size) = some c2.toArray.size) (hz2 : z2.toArray.size = c2.toArray.size) (ho2 : c2.toArray.all (·.oneCell') = true) (hi3 : (P.info? L3).map (·.size) = some c3.toArray.size) (hz3 : z3.toArray.size = c3.toArray.size) (ho3 : c3.toArray.all (·.oneCell') = true)
    (hend : ∀ (p q r : Nat) w, S w → B ≤ p → B ≤ q → B ≤ r → p ≠ q → p ≠ r → q ≠ r → Row w p T1 c1 → Row w q T2 c2 → Row w r T3 c3 → Q .normal (((aD.put d1 (.pointer (some ⟨p, 0, none⟩))).put d2 (.pointer (some ⟨q, 0, none⟩))).put d3 (.pointer (some ⟨r, 0, none⟩))) w) : (Code.region id ops true).wp P Q a0 w0 := by
  refine wp_vars (B := B) (vars := [⟨some k1, 0, T1, z1, c1, s1⟩, ⟨some k2, 0, T2, z2, c2, s2⟩, ⟨some k3, 0, T3, z3, c3, s3⟩]) hm hS0 hD ?_ ?_ hk hSB ?_ hB ?_ ?_ ?_
  · intro v hv k hk'
    rcases List.mem_cons.1 hv with rfl | hv
    · cases hk'; exact hA1
    · rcases List.mem_cons.1 hv with rfl | hv
      · cases hk'; exact hA2
      · obtain rfl := List.mem_singleton.1 hv
        cases hk'; exact hA3
  · have hp : ∀ gs : Nat → Nat, putVars ops gs (allocsOf [⟨some k1, 0, T1, z1, c1, s1⟩, ⟨some k2, 0, T2, z2, c2, s2⟩, ⟨some k3, 0, T3, z3, c3, s3⟩]) aD = ((aD.put d1 (.pointer (some ⟨gs k1, 0, none⟩))).put d2 (.pointer (some ⟨gs k2, 0, none⟩))).put d3 (.pointer (some ⟨gs k3, 0, none⟩)) := fun gs => by
      simp only [allocsOf, List.filterMap_cons, List.filterMap_nil, putVars, hd1, hd2, hd3]
    intro v hv
    rcases List.mem_cons.1 hv with rfl | hv
    · exact ⟨o1, L1, x1, y1, h1, g1, hn1, hst1, fun gs => (congrArg (fun b : Act => b.eval x1) (hp gs)).trans (hx1 _ _ _), fun gs => (congrArg (fun b : Act => b.eval y1) (hp gs)).trans (hy1 _ _ _), hi1, hz1, ho1⟩
    · rcases List.mem_cons.1 hv with rfl | hv
      · exact ⟨o2, L2, x2, y2, h2, g2, hn2, hst2, fun gs => (congrArg (fun b : Act => b.eval x2) (hp gs)).trans (hx2 _ _ _), fun gs => (congrArg (fun b : Act => b.eval y2) (hp gs)).trans (hy2 _ _ _), hi2, hz2, ho2⟩
      · obtain rfl := List.mem_singleton.1 hv
        exact ⟨o3, L3, x3, y3, h3, g3, hn3, hst3, fun gs => (congrArg (fun b : Act => b.eval x3) (hp gs)).trans (hx3 _ _ _), fun gs => (congrArg (fun b : Act => b.eval y3) (hp gs)).trans (hy3 _ _ _), hi3, hz3, ho3⟩
  · intro w g cs hS hg
    refine hSR w g cs hS (hg.resolve_right ?_)
    rintro ⟨v, hv, hva, _⟩
    rcases List.mem_cons.1 hv with rfl | hv
    · cases hva
    · rcases List.mem_cons.1 hv with rfl | hv
      · cases hva
      · obtain rfl := List.mem_singleton.1 hv
        cases hva
  · intro v hv v' hv' hva
    rcases List.mem_cons.1 hv with rfl | hv
    · cases hva
    · rcases List.mem_cons.1 hv with rfl | hv
      · cases hva
      · obtain rfl := List.mem_singleton.1 hv
        cases hva
  · intro v hv hva
    rcases List.mem_cons.1 hv with rfl | hv
    · cases hva
    · rcases List.mem_cons.1 hv with rfl | hv
      · cases hva
      · obtain rfl := List.mem_singleton.1 hv
        cases hva
  · intro gs w hS' hnew hrows hap
    have hp : putVars ops gs (allocsOf [⟨some k1, 0, T1, z1, c1, s1⟩, ⟨some k2, 0, T2, z2, c2, s2⟩, ⟨some k3, 0, T3, z3, c3, s3⟩]) aD = ((aD.put d1 (.pointer (some ⟨gs k1, 0, none⟩))).put d2 (.pointer (some ⟨gs k2, 0, none⟩))).put d3 (.pointer (some ⟨gs k3, 0, none⟩)) := by
      simp only [allocsOf, List.filterMap_cons, List.filterMap_nil, putVars, hd1, hd2, hd3]
    rw [hp]
    exact hend _ _ _ w hS' (hnew ⟨some k1, 0, T1, z1, c1, s1⟩ (by simp) k1 rfl) (hnew ⟨some k2, 0, T2, z2, c2, s2⟩ (by simp) k2 rfl) (hnew ⟨some k3, 0, T3, z3, c3, s3⟩ (by simp) k3 rfl) (hap ⟨some k1, 0, T1, z1, c1, s1⟩ (by simp) ⟨some k2, 0, T2, z2, c2, s2⟩ (by simp) hs12) (hap ⟨some k1, 0, T1, z1, c1, s1⟩ (by simp) ⟨some k3, 0, T3, z3, c3, s3⟩ (by simp) hs13) (hap ⟨some k2, 0, T2, z2, c2, s2⟩ (by simp) ⟨some k3, 0, T3, z3, c3, s3⟩ (by simp) hs23) (hrows ⟨some k1, 0, T1, z1, c1, s1⟩ (by simp)) (hrows ⟨some k2, 0, T2, z2, c2, s2⟩ (by simp)) (hrows ⟨some k3, 0, T3, z3, c3, s3⟩ (by simp))

end

end Go.Proofs.YthpbipebpaeagaaDoor
