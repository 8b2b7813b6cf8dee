/- What slices.Compact makes of a row of marks: mathematics, and the row's cells. -/
import Derived.Test.YtocgeemjdlnabaaLb
import Derived.Test.YtocgeemjdlnabaaEe
import Derived.Deep.MidRow
import Derived.Laws.IdiomCopy
namespace Go.Proofs.Ytocgeemjdlnabaa
set_option maxRecDepth 100000
set_option linter.unusedSimpArgs false
set_option linter.unusedVariables false
open Go.RowKit


/-- The first k names, of neighbours that are the same one alone. -/
def dnM (d : List Mk) : Nat → List Mk
  | 0 => []
  | k + 1 => if 0 < k ∧ d[k]? = d[k - 1]? then dnM d k else dnM d k ++ (d[k]?).toList
theorem dn_memM {d : List Mk} {x : Mk} : ∀ {k : Nat}, k ≤ d.length → (x ∈ dnM d k ↔ x ∈ d.take k)
  | 0, _ => by simp [dnM]
  | k + 1, h => by
    have ih := dn_memM (d := d) (x := x) (k := k) (by omega)
    have hk : d[k]? = some d[k] := List.getElem?_eq_getElem (by omega)
    rw [dnM, List.take_add_one, List.mem_append]
    split
    · rename_i hc
      rw [ih, hk]
      refine ⟨Or.inl, fun h => h.elim id fun hx => ?_⟩
      simp at hx
      rw [List.mem_take_iff_getElem]
      have hk1 : d[k - 1]? = some d[k - 1] := List.getElem?_eq_getElem (by omega)
      rw [hk, hk1] at hc
      refine ⟨k - 1, by omega, ?_⟩
      have := hc.2
      simp at this
      rw [hx, this]
    · rw [List.mem_append, ih]
theorem dn_lenM {d : List Mk} : ∀ {k : Nat}, (dnM d k).length ≤ k
  | 0 => by simp [dnM]
  | k + 1 => by
    have ih := dn_lenM (d := d) (k := k)
    rw [dnM]
    split
    · omega
    · rw [List.length_append]
      cases d[k]? <;> simp <;> omega
theorem dn_posM {d : List Mk} (hd : 0 < d.length) : ∀ {k : Nat}, 0 < k → 0 < (dnM d k).length
  | k + 1, _ => by
    rw [dnM]
    split
    · rename_i hc
      exact dn_posM hd hc.1
    · rename_i hc
      cases hk : d[k]? with
      | some x => simp
      | none =>
        have hk0 : 0 < k := by
          rcases Nat.eq_zero_or_pos k with e | e
          · subst e; rw [List.getElem?_eq_getElem hd] at hk; cases hk
          · exact e
        rw [List.length_append]
        have := dn_posM hd hk0
        omega
/-- Of a list in order what is left is in order, none of it twice. -/
theorem dn_ascM {d : List Mk} (hs : d.Pairwise fun a b => Mk.n a ≤ Mk.n b) : ∀ {k : Nat} (hkd : k ≤ d.length), (dnM d k).Pairwise (fun a b => Mk.n a < Mk.n b) ∧ ∀ (h : 0 < k) (x : Mk), x ∈ dnM d k → Mk.n x ≤ (d[k - 1]'(by omega)).n
  | 0, _ => ⟨by simp [dnM], fun h => absurd h (by omega)⟩
  | k + 1, h => by
    have ih := dn_ascM hs (k := k) (by omega)
    have hk : d[k]? = some d[k] := List.getElem?_eq_getElem (by omega)
    have hle : ∀ (h0 : 0 < k), (d[k - 1]'(by omega)).n ≤ (d[k]'(by omega)).n := fun h0 => List.pairwise_iff_getElem.1 hs _ _ _ _ (by omega)
    rw [dnM]
    split
    · rename_i hc
      refine ⟨ih.1, fun _ x hx => ?_⟩
      exact Int.le_trans (ih.2 hc.1 x hx) (hle hc.1)
    · rename_i hc
      rw [hk]
      refine ⟨?_, fun _ x hx => ?_⟩
      · rw [List.pairwise_append]
        refine ⟨ih.1, by simp, fun a ha b hb => ?_⟩
        simp at hb
        subst hb
        have h0 : 0 < k := by
          rcases Nat.eq_zero_or_pos k with e | e
          · subst e; simp [dnM] at ha
          · exact e
        have h1 := ih.2 h0 a ha
        have h2 := hle h0
        have h3 : (d[k - 1]'(by omega)).n ≠ (d[k]'(by omega)).n := fun e => hc ⟨h0, by
          rw [hk, List.getElem?_eq_getElem (by omega), Mk.n_inj e]⟩
        omega
      · rw [List.mem_append] at hx
        rcases hx with hx | hx
        · have h0 : 0 < k := by
            rcases Nat.eq_zero_or_pos k with e | e
            · subst e; simp [dnM] at hx
            · exact e
          exact Int.le_trans (ih.2 h0 x hx) (hle h0)
        · simp at hx
          subst hx
          exact Int.le_refl _

/-- The cells of names, one behind the other. -/
def flatM (d : List Mk) : List Value := d.flatMap Mk.c
theorem flat_lengthM : ∀ (d : List Mk), (flatM d).length = d.length * 33
  | [] => rfl
  | a :: d => by
    have := flat_lengthM d
    unfold flatM at this ⊢
    rw [List.flatMap_cons, List.length_append, Mk.c_len a, this, List.length_cons]
    omega
theorem flat_atM : ∀ {d : List Mk} {i : Nat} {x : Mk}, d[i]? = some x → ∀ (T : List Value) {j : Nat} {v : Value}, (Mk.c x)[j]? = some v → (flatM d ++ T)[i * 33 + j]? = some v
  | [], i, x, h, _, _, _, _ => by simp at h
  | a :: d, 0, x, h, T, j, v, hv => by
    simp at h
    subst h
    have hj : j < (Mk.c a).length := (List.getElem?_eq_some_iff.1 hv).1
    unfold flatM
    rw [List.flatMap_cons, List.append_assoc, List.getElem?_append_left (by omega), Nat.zero_mul, Nat.zero_add]
    exact hv
  | a :: d, i + 1, x, h, T, j, v, hv => by
    have ih := flat_atM (d := d) (i := i) (x := x) (by simpa using h) T hv
    unfold flatM at ih ⊢
    rw [List.flatMap_cons, List.append_assoc, List.getElem?_append_right (by rw [Mk.c_len a]; omega), Mk.c_len a, show (i + 1) * 33 + j - 33 = i * 33 + j by omega]
    exact ih
theorem flat_setM : ∀ {d : List Mk} {k : Nat} (x : Mk) (T : List Value), k < d.length → setsE (flatM d ++ T) (k * 33) (Mk.c x) = flatM (d.set k x) ++ T
  | [], _, _, _, h => by simp at h
  | a :: d, 0, x, T, _ => by
    unfold flatM
    rw [List.flatMap_cons, List.append_assoc, Nat.zero_mul, setsE_here _ _ _ (by rw [Mk.c_len a, Mk.c_len x]), List.set_cons_zero, List.flatMap_cons, List.append_assoc]
  | a :: d, k + 1, x, T, h => by
    have ih := flat_setM (d := d) (k := k) x T (by simpa using h)
    unfold flatM at ih ⊢
    rw [List.flatMap_cons, List.append_assoc, setsE_ahead _ _ _ _ (by rw [Mk.c_len a]; omega), Mk.c_len a, show (k + 1) * 33 - 33 = k * 33 by omega, ih, List.set_cons_succ, List.flatMap_cons, List.append_assoc]
theorem Row.rangeM {w : World} {g : Nat} {T : TypeId} {d : List Mk} {R : List Value} (h : Row w g T (flatM d ++ R)) {i : Nat} {x : Mk} (hx : d[i]? = some x) : w.rangeAt g (i * 33) (Mk.c x) := fun j v hv => h.cell (flat_atM hx R hv)

end Go.Proofs.Ytocgeemjdlnabaa
