/- A map of places: what it means, and that it stays. -/
import Derived.Test.YtpegkalhjnldkaaDf
import Derived.Test.YtpegkalhjnldkaaDc
import Derived.Maps.GroupsBeside
namespace Go.Proofs.Ytpegkalhjnldkaa
set_option maxRecDepth 100000
set_option linter.unusedSimpArgs false
set_option linter.unusedVariables false
open Go.RowKit Go.Shelf
open Go.Maps (IsMap)

abbrev Gr (w : World) (base b n : Nat) (D : DataW Unit) : Prop := w.ownsGroups Try.prog 39 base 3 .i64 b n D
theorem groups_none {H : Type} {W : World} {P : Program} {k e : TypeId} {q : IntKind} {b base : Nat} (h : W.heap[b]? = some (.map #[] 0)) (hb : b < base) : W.ownsGroups (H := H) P k base e q b 0 (.map []) :=
  ⟨#[], 0, h, ⟨by simp, Go.MapKept.stamped_empty 0, by simp⟩, Nat.le_refl _, rfl, hb, by simp, by simp⟩
theorem groups_isMap {H : Type} {W : World} {P : Program} {k e : TypeId} {q : IntKind} {b base n : Nat} {D : DataW H} (h : W.ownsGroups P k base e q b n D) : IsMap D := by
  obtain ⟨es, clock, _, _, _, rfl, _⟩ := h
  exact ⟨_, rfl⟩
theorem groups_block {H : Type} {W : World} {P : Program} {k e : TypeId} {q : IntKind} {b base n : Nat} {D : DataW H} (h : W.ownsGroups P k base e q b n D) : ∃ es c, W.heap[b]? = some (.map es c) := by
  obtain ⟨es, clock, h, _⟩ := h
  exact ⟨_, _, h⟩
/-- What is no row of cells may turn. -/
theorem groups_from {H : Type} {W W' : World} {P : Program} {k e : TypeId} {q : IntKind} {b base n B : Nat} {D : DataW H} {row : Option Nat} (h : W.ownsGroups P k base e q b n D) (hg : W.grownBy W' row) (hbB : b < B)
    (hr : ∀ r, row = some r → B ≤ r ∧ ∃ o : Obj, W.heap[r]? = some o ∧ o.isCells = false) : W'.ownsGroups P k base e q b n D := by
  refine h.kept hg (fun e => ?_) (fun es clock hb x hx => ?_)
  · have := (hr b e.symm).1; omega
  · obtain ⟨es', clock', hb', F, _⟩ := h
    obtain ⟨rfl, rfl⟩ : es' = es ∧ clock' = clock := by rw [hb'] at hb; simpa using hb
    obtain ⟨y, hy⟩ := F.reads x hx
    obtain ⟨z, hz, _⟩ := Go.WideElems.rd_val hy
    obtain ⟨zs, hoi, _⟩ := Go.rowElem_inv hz
    rcases hoi.1.2 with ⟨h0, _⟩ | ⟨g, cap, cur, h0, _, hrow, _⟩
    · rw [h0]; exact .inl rfl
    · refine .inr fun e1 => ?_
      rw [h0] at e1
      obtain ⟨_, o, ho, hc⟩ := hr g e1.symm
      rw [hrow] at ho
      cases ho
      cases hc
/-- The numbers as a datum. -/
def dOf : List Int → DataW Unit
  | [] => .nil
  | z :: zs => .slice (Go.ChangeShapes.lits .i64 (z :: zs)) []
theorem dOf_pos {zs : List Int} (h : zs ≠ []) : dOf zs = .slice (Go.ChangeShapes.lits .i64 zs) [] := by
  cases zs with
  | nil => exact absurd rfl h
  | cons z zs => rfl
theorem lits_inj : ∀ {a b : List Int}, (Go.ChangeShapes.lits .i64 a : List (DataW Unit)) = Go.ChangeShapes.lits .i64 b → a = b
  | [], [], _ => rfl
  | [], _ :: _, h => by simp [Go.ChangeShapes.lits] at h
  | _ :: _, [], h => by simp [Go.ChangeShapes.lits] at h
  | x :: a, y :: b, h => by
    simp [Go.ChangeShapes.lits] at h
    rw [h.1, lits_inj (a := a) (b := b) (by simpa [Go.ChangeShapes.lits] using h.2)]
theorem dOf_eq {w : World} {base : Nat} {e : TypeId} {v : Value} {zs f : List Int} (ho : w.ownsInts base e .i64 v zs) (h : dOf f = Go.rowDatum .i64 v zs) : zs = f := by
  rcases ho.datum (H := Unit) with ⟨h1, h2⟩ | h1
  · rw [h1] at h
    cases f with
    | nil => exact h2
    | cons z f => simp [dOf] at h
  · rw [h1] at h
    cases f with
    | nil => simp [dOf] at h
    | cons z f =>
      simp only [dOf, DataW.slice.injEq] at h
      exact (lits_inj h.1).symm
/-- The map reads as f. -/
def Mn (D : DataW Unit) (f : Int → List Int) : Prop := ∀ y : Int, D.atKey (.int .u64 y) .nil = dOf (f y)
theorem Mn.none {f : Int → List Int} (h : ∀ y, f y = []) : Mn (.map []) f := fun y => by rw [h y]; rfl
theorem Mn.put {D : DataW Unit} {f g : Int → List Int} (h : Mn D f) (hD : IsMap D) {x : Int} {d : DataW Unit} (hd : d = dOf (g x)) (hg : ∀ y, y ≠ x → g y = f y) : Mn (D.put (.int .u64 x) d) g := fun y => by
  by_cases e : y = x
  · subst e; rw [Go.Maps.atKey_put_same hD (by simp [Go.WideAt.IsKeyLit]), hd]
  · rw [Go.Maps.atKey_put_other (by intro h'; exact e (by simpa using h')), h y, hg y e]
/-- The places that have come, by their number. -/
def fOf (a : List Int) (pre : List (Fin 64)) (y : Int) : List Int := (pre.filter (fun p => decide (a[p.1]?.getD 0 = y))).map (fun p => (p.1 : Int))
theorem fOf_same (a : List Int) (pre : List (Fin 64)) (x : Fin 64) : fOf a (pre ++ [x]) (a[x.1]?.getD 0) = fOf a pre (a[x.1]?.getD 0) ++ [(x.1 : Int)] := by simp [fOf]
theorem fOf_other (a : List Int) (pre : List (Fin 64)) (x : Fin 64) {y : Int} (h : y ≠ a[x.1]?.getD 0) : fOf a (pre ++ [x]) y = fOf a pre y := by
  simp [fOf, List.filter_append, Ne.symm h]
theorem fOf_back (a : List Int) (y : Int) (ha : a.length ≤ 60) : ∀ k, k ≤ a.length → fOf a (upto (bk a.length) k) y = (Lcs.plc a y k).map (fun p : Nat => (p : Int))
  | 0, _ => by simp [fOf, upto, Lcs.plc]
  | k + 1, h => by
    have ih := fOf_back a y ha k (by omega)
    have hk : (bk a.length k).1 = a.length - (k + 1) := by rw [bk_val ha]; omega
    have hx : a[a.length - (k + 1)]? = some (a[a.length - (k + 1)]?.getD 0) := by
      rw [List.getElem?_eq_getElem (by omega)]; rfl
    rw [upto_succ, Lcs.plc, List.map_append, ← ih]
    by_cases e : y = a[(bk a.length k).1]?.getD 0
    · have e2 : a[a.length - (k + 1)]? = some y := by rw [hx, e, hk]
      rw [if_pos e2, e, fOf_same, hk]
      simp
    · have e2 : ¬ a[a.length - (k + 1)]? = some y := by
        rw [hx]; intro h'; exact e (by rw [hk]; simpa using h'.symm)
      rw [if_neg e2, fOf_other _ _ _ e]
      simp
theorem fOf_all (a : List Int) (y : Int) (ha : a.length ≤ 60) : fOf a (upto (bk a.length) a.length) y = (Lcs.places a y).map (fun p : Nat => (p : Int)) := fOf_back a y ha _ (Nat.le_refl _)
/-- A look-up asks the map's block alone. -/
theorem lookup_same {P : Program} {t k e : TypeId} {b : Nat} {key v z : Value} {kl : Lit} {w w' : World} {es : Array MapEntry} {clock : Nat} (K : Go.Maps.Keyed P k) (ht : P.underlying t = some (.map k e)) (hz : ∀ w : World, (zeroValue e).run P w = .ok z w) (hkey : keyOf P k key = some kl)
    (hks : ∀ e ∈ es.toList, ∃ l, keyOf P k e.key = some l) (hn : es.toList.Pairwise (fun x y => x.key ≠ y.key))
    (hb : w.heap[b]? = some (.map es clock)) (hb' : w'.heap[b]? = some (.map es clock)) (h : (Instr.lookup t (.map (some b)) key false).run P w = .ok v w) : (Instr.lookup t (.map (some b)) key false).run P w' = .ok v w' := by
  simp [Instr.lookup, run_underlying ht, Go.MapKept.run_getObj_map hb, K.check w _ hkey, hz, Result.andThen] at h
  simp [Instr.lookup, run_underlying ht, Go.MapKept.run_getObj_map hb', K.check w' _ hkey, hz, Result.andThen]
  rcases K.find w hkey es.toList hks with ⟨h1, h2⟩ | ⟨j, e0, h1, h2, h3⟩ <;> rcases K.find w' hkey es.toList hks with ⟨g1, g2⟩ | ⟨j', e1, g1, g2, g3⟩
  · simp [h1, hz] at h
    simp [g1, hz, h]
  · exact absurd g3 (h2 e1 (List.mem_of_getElem? g2))
  · exact absurd h3 (g2 e0 (List.mem_of_getElem? h2))
  · obtain ⟨l1, r1⟩ := List.getElem?_eq_some_iff.1 h2
    obtain ⟨l2, r2⟩ := List.getElem?_eq_some_iff.1 g2
    have hp := List.pairwise_iff_getElem.1 hn
    have hj : j = j' := by
      rcases Nat.lt_trichotomy j j' with hlt | he | hlt
      · exact absurd (by rw [r1, r2, h3, g3]) (hp j j' l1 l2 hlt)
      · exact he
      · exact absurd (by rw [r1, r2, h3, g3]) (hp j' j l2 l1 hlt)
    subst hj
    have he : e0 = e1 := by rw [h2] at g2; exact Option.some.inj g2
    subst he
    simp [h1] at h
    simp [g1, h]
theorem groups_look {w : World} {base b n : Nat} {D : DataW Unit} (h : Gr w base b n D) {x : Int} (hx : (Lit.int .u64 x).wf = true) (hn : n < maxLen) :
    ∃ v zs, (∀ w' : World, w'.heap[b]? = w.heap[b]? → (Instr.lookup 42 (.map (some b)) (.int .u64 x) false).run Try.prog w' = .ok v w') ∧ D.atKey (.int .u64 x) .nil = Go.rowDatum .i64 v zs ∧ w.ownsInts base 3 .i64 v zs ∧ zs.length ≤ n ∧ w.groupBack Try.prog 42 39 base 3 .i64 b n D (.int .u64 x) (.int .u64 x) v := by
  have K : Go.Maps.Keyed Try.prog 39 := Go.Maps.int_keyed Try.underlying39
  have hz : ∀ w : World, (zeroValue 46).run Try.prog w = .ok (.slice none 0 0) w := fun w => by kernel_rfl
  have hkey := Go.Maps.keyOf_int_mk (P := Try.prog) Try.underlying39 hx
  obtain ⟨v, zs, h1, h2, h3, h4, h5⟩ := h.at K Try.underlying42 (hz w) hn hkey
  obtain ⟨es, clock, hb, F, _⟩ := h
  refine ⟨v, zs, fun w' hw => lookup_same K Try.underlying42 hz hkey F.keys ((Go.MapKept.stamped_iff es clock).1 F.stamped).2.2 hb (hw.trans hb) h1, h2, h3, h4, h5⟩
theorem back_wide (A : Option Addr) (len cap : Nat) (w : World) :
    Calls Try.prog 8 #[.slice A len cap] w fun e w' => e = .returned (.func (.func 15) #[] #[.pointer (some ⟨w.heap.size, 0, none⟩)]) ∧ w' = w.alloc (.cells #[.slice A len cap] 22) :=
  callsIn_wide.1 (back_in Fence.wide 0 trivial rfl A len cap w)

end Go.Proofs.Ytpegkalhjnldkaa
