/- What slices.Compact makes of a row of names: mathematics, and the row's cells. -/
import Derived.Test.YtocgeemjdlnabaaEd
import Derived.Deep.MidRow
import Derived.Laws.IdiomCopy
namespace Go.Proofs.Ytocgeemjdlnabaa
set_option maxRecDepth 100000
set_option linter.unusedSimpArgs false
set_option linter.unusedVariables false
open Go.RowKit

/-- The first k names, of neighbours that are the same one alone. -/
def dn (d : List Hs) : Nat → List Hs
  | 0 => []
  | k + 1 => if 0 < k ∧ d[k]? = d[k - 1]? then dn d k else dn d k ++ (d[k]?).toList
theorem dn_mem {d : List Hs} {x : Hs} : ∀ {k : Nat}, k ≤ d.length → (x ∈ dn d k ↔ x ∈ d.take k)
  | 0, _ => by simp [dn]
  | k + 1, h => by
    have ih := dn_mem (d := d) (x := x) (k := k) (by omega)
    have hk : d[k]? = some d[k] := List.getElem?_eq_getElem (by omega)
    rw [dn, List.take_add_one, List.mem_append]
    split
    · rename_i hc
      rw [ih, hk]
      refine ⟨Or.inl, fun h => h.elim id fun hx => ?_⟩
      simp at hx
      rw [List.mem_take_iff_getElem]
      have hk1 : d[k - 1]? = some d[k - 1] := List.getElem?_eq_getElem (by omega)
      rw [hk, hk1] at hc
      refine ⟨k - 1, by omega, ?_⟩
      have := hc.2
      simp at this
      rw [hx, this]
    · rw [List.mem_append, ih]
theorem dn_len {d : List Hs} : ∀ {k : Nat}, (dn d k).length ≤ k
  | 0 => by simp [dn]
  | k + 1 => by
    have ih := dn_len (d := d) (k := k)
    rw [dn]
    split
    · omega
    · rw [List.length_append]
      cases d[k]? <;> simp <;> omega
theorem dn_pos {d : List Hs} (hd : 0 < d.length) : ∀ {k : Nat}, 0 < k → 0 < (dn d k).length
  | k + 1, _ => by
    rw [dn]
    split
    · rename_i hc
      exact dn_pos hd hc.1
    · rename_i hc
      cases hk : d[k]? with
      | some x => simp
      | none =>
        have hk0 : 0 < k := by
          rcases Nat.eq_zero_or_pos k with e | e
          · subst e; rw [List.getElem?_eq_getElem hd] at hk; cases hk
          · exact e
        rw [List.length_append]
        have := dn_pos hd hk0
        omega
/-- Of a list in order what is left is in order, none of it twice. -/
theorem dn_asc {d : List Hs} (hs : d.Pairwise fun a b => a.n ≤ b.n) : ∀ {k : Nat} (hkd : k ≤ d.length), (dn d k).Pairwise (fun a b => a.n < b.n) ∧ ∀ (h : 0 < k) (x : Hs), x ∈ dn d k → x.n ≤ (d[k - 1]'(by omega)).n
  | 0, _ => ⟨by simp [dn], fun h => absurd h (by omega)⟩
  | k + 1, h => by
    have ih := dn_asc hs (k := k) (by omega)
    have hk : d[k]? = some d[k] := List.getElem?_eq_getElem (by omega)
    have hle : ∀ (h0 : 0 < k), (d[k - 1]'(by omega)).n ≤ (d[k]'(by omega)).n := fun h0 => List.pairwise_iff_getElem.1 hs _ _ _ _ (by omega)
    rw [dn]
    split
    · rename_i hc
      refine ⟨ih.1, fun _ x hx => ?_⟩
      exact Nat.le_trans (ih.2 hc.1 x hx) (hle hc.1)
    · rename_i hc
      rw [hk]
      refine ⟨?_, fun _ x hx => ?_⟩
      · rw [List.pairwise_append]
        refine ⟨ih.1, by simp, fun a ha b hb => ?_⟩
        simp at hb
        subst hb
        have h0 : 0 < k := by
          rcases Nat.eq_zero_or_pos k with e | e
          · subst e; simp [dn] at ha
          · exact e
        have h1 := ih.2 h0 a ha
        have h2 := hle h0
        have h3 : (d[k - 1]'(by omega)).n ≠ (d[k]'(by omega)).n := fun e => hc ⟨h0, by
          rw [hk, List.getElem?_eq_getElem (by omega), Hs.n_inj e]⟩
        omega
      · rw [List.mem_append] at hx
        rcases hx with hx | hx
        · have h0 : 0 < k := by
            rcases Nat.eq_zero_or_pos k with e | e
            · subst e; simp [dn] at hx
            · exact e
          exact Nat.le_trans (ih.2 h0 x hx) (hle h0)
        · simp at hx
          subst hx
          exact Nat.le_refl _

/-- The cells of names, one behind the other. -/
def flat (d : List Hs) : List Value := d.flatMap Hs.c
theorem flat_length : ∀ (d : List Hs), (flat d).length = d.length * 32
  | [] => rfl
  | a :: d => by
    have := flat_length d
    unfold flat at this ⊢
    rw [List.flatMap_cons, List.length_append, a.c_len, this, List.length_cons]
    omega
theorem flat_at : ∀ {d : List Hs} {i : Nat} {x : Hs}, d[i]? = some x → ∀ (T : List Value) {j : Nat} {v : Value}, x.c[j]? = some v → (flat d ++ T)[i * 32 + j]? = some v
  | [], i, x, h, _, _, _, _ => by simp at h
  | a :: d, 0, x, h, T, j, v, hv => by
    simp at h
    subst h
    have hj : j < a.c.length := (List.getElem?_eq_some_iff.1 hv).1
    unfold flat
    rw [List.flatMap_cons, List.append_assoc, List.getElem?_append_left (by omega), Nat.zero_mul, Nat.zero_add]
    exact hv
  | a :: d, i + 1, x, h, T, j, v, hv => by
    have ih := flat_at (d := d) (i := i) (x := x) (by simpa using h) T hv
    unfold flat at ih ⊢
    rw [List.flatMap_cons, List.append_assoc, List.getElem?_append_right (by rw [a.c_len]; omega), a.c_len, show (i + 1) * 32 + j - 32 = i * 32 + j by omega]
    exact ih
/-- Cells overwritten, from a place on. -/
def setsE (l : List Value) (o : Nat) : List Value → List Value
  | [] => l
  | v :: vs => setsE (l.set o v) (o + 1) vs
theorem setsE_ahead : ∀ (vs A R : List Value) (o : Nat), A.length ≤ o → setsE (A ++ R) o vs = A ++ setsE R (o - A.length) vs
  | [], _, _, _, _ => rfl
  | v :: vs, A, R, o, h => by
    rw [setsE, setsE, List.set_append_right _ _ h, setsE_ahead vs A _ (o + 1) (by omega)]
    rw [show o + 1 - A.length = o - A.length + 1 by omega]
theorem setsE_here : ∀ (vs A R : List Value), A.length = vs.length → setsE (A ++ R) 0 vs = vs ++ R
  | [], A, R, h => by
    have : A = [] := List.length_eq_zero_iff.1 h
    subst this; rfl
  | v :: vs, [], R, h => by simp at h
  | v :: vs, a :: A, R, h => by
    rw [setsE, List.cons_append, List.set_cons_zero]
    have h1 := setsE_ahead vs [v] (A ++ R) (0 + 1) (by simp)
    rw [List.singleton_append] at h1
    rw [h1]
    have h2 := setsE_here vs A R (by simpa using h)
    simp only [List.length_singleton, Nat.zero_add, Nat.sub_self, List.singleton_append, List.cons_append, List.cons.injEq, true_and]
    exact h2
theorem setsE_len : ∀ (vs l : List Value) (o : Nat), (setsE l o vs).length = l.length
  | [], _, _ => rfl
  | v :: vs, l, o => by rw [setsE, setsE_len vs, List.length_set]
theorem flat_set : ∀ {d : List Hs} {k : Nat} (x : Hs) (T : List Value), k < d.length → setsE (flat d ++ T) (k * 32) x.c = flat (d.set k x) ++ T
  | [], _, _, _, h => by simp at h
  | a :: d, 0, x, T, _ => by
    unfold flat
    rw [List.flatMap_cons, List.append_assoc, Nat.zero_mul, setsE_here _ _ _ (by rw [a.c_len, x.c_len]), List.set_cons_zero, List.flatMap_cons, List.append_assoc]
  | a :: d, k + 1, x, T, h => by
    have ih := flat_set (d := d) (k := k) x T (by simpa using h)
    unfold flat at ih ⊢
    rw [List.flatMap_cons, List.append_assoc, setsE_ahead _ _ _ _ (by rw [a.c_len]; omega), a.c_len, show (k + 1) * 32 - 32 = k * 32 by omega, ih, List.set_cons_succ, List.flatMap_cons, List.append_assoc]
theorem Row.setCellsE : ∀ (vs : List Value) {w : World} {g o : Nat} {T : TypeId} {l : List Value}, Row w g T l → Row (w.setCells g o vs) g T (setsE l o vs)
  | [], _, _, _, _, _, h => h
  | v :: r, _, _, o, _, _, h => Row.setCellsE r (h.set o v)
theorem Row.thereE {w : World} {g : Nat} {T : TypeId} {l : List Value} (h : Row w g T l) {o n : Nat} (hn : o + n ≤ l.length) : w.there g o n := fun j hj =>
  ⟨by rw [h.cell (List.getElem?_eq_getElem (by omega))]; rfl, h.free _⟩
theorem Row.rangeE {w : World} {g : Nat} {T : TypeId} {d : List Hs} {R : List Value} (h : Row w g T (flat d ++ R)) {i : Nat} {x : Hs} (hx : d[i]? = some x) : w.rangeAt g (i * 32) x.c := fun j v hv => h.cell (flat_at hx R hv)
theorem only_setCells : ∀ (vs : List Value) (w : World) (g o : Nat), Only (· = g) w (w.setCells g o vs)
  | [], w, _, _ => Only.refl _ _
  | v :: r, w, g, o => by
    have h := only_setCells r (w.setCell ⟨g, o, none⟩ v) g (o + 1)
    exact ((Only.refl (fun k => k = g) w).setCell (p := ⟨g, o, none⟩) (Or.inl rfl) v).trans h fun _ _ e => e

end Go.Proofs.Ytocgeemjdlnabaa
