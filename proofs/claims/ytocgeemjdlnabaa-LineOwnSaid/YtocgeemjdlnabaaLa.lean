/- Marks: their cells, and the number that tells which one is ahead. -/
import Derived.Test.YtocgeemjdlnabaaEa
namespace Go.Proofs.Ytocgeemjdlnabaa
set_option maxRecDepth 100000
set_option linter.unusedSimpArgs false
set_option linter.unusedVariables false

/-- A mark. -/
abbrev Mk := Int × Hs
theorem Hs.n_lt (h : Hs) : h.n < 115792089237316195423570985008687907853269984665640564039457584007913129639936 := by
  have := num_lt h.1
  rw [h.2] at this
  exact this
def Mk.n (m : Mk) : Int := m.1 * 115792089237316195423570985008687907853269984665640564039457584007913129639936 + (m.2.n : Int)
theorem Mk.lt_iff (a b : Mk) : Mk.n a < Mk.n b ↔ a.1 < b.1 ∨ a.1 = b.1 ∧ a.2.n < b.2.n := by
  have h1 := a.2.n_lt
  have h2 := b.2.n_lt
  unfold Mk.n
  omega
theorem Mk.n_inj {a b : Mk} (h : Mk.n a = Mk.n b) : a = b := by
  have h1 := a.2.n_lt
  have h2 := b.2.n_lt
  unfold Mk.n at h
  have h3 : a.1 = b.1 := by omega
  have h4 : a.2.n = b.2.n := by omega
  exact Prod.ext h3 (Hs.n_inj h4)
/-- Its cells. -/
def Mk.c (m : Mk) : List Value := .int .i64 m.1 :: m.2.c
theorem Mk.c_len (m : Mk) : (Mk.c m).length = 33 := by unfold Mk.c; rw [List.length_cons, m.2.c_len]
theorem Mk.c_one (m : Mk) : ∀ v ∈ Mk.c m, v.oneCell' = true := fun v hv => by
  unfold Mk.c at hv
  rcases List.mem_cons.1 hv with rfl | hv
  · rfl
  · exact m.2.c_one v hv
theorem Mk.c_inj {a b : Mk} (h : Mk.c a = Mk.c b) : a = b := by
  unfold Mk.c at h
  injection h with h1 h2
  injection h1 with _ h3
  exact Prod.ext h3 (Hs.c_inj h2)
/-- What line.compare tells. -/
def Mk.cf (a b : Mk) : Int := Lib.compareInt (Mk.n a) (Mk.n b)
theorem Mk.cf_eq (a b : Mk) : Mk.cf a b = if Lib.compareInt a.1 b.1 = 0 then Hs.cf a.2 b.2 else Lib.compareInt a.1 b.1 := by
  have h1 := Mk.lt_iff a b
  have h2 := Mk.lt_iff b a
  unfold Mk.cf Hs.cf Lib.compareInt
  (repeat' split) <;> omega
theorem Mk.cf_lt (a b : Mk) : decide (Mk.cf a b < 0) = decide (Mk.n a < Mk.n b) := by
  unfold Mk.cf Lib.compareInt
  by_cases h1 : Mk.n a < Mk.n b
  · rw [if_pos h1]; simp [h1]
  · rw [if_neg h1]
    by_cases h2 : Mk.n b < Mk.n a
    · rw [if_pos h2]; simp [h1]
    · rw [if_neg h2]; simp [h1]

/-- In order, none twice. -/
def Asc (l : List Mk) : Prop := l.Pairwise fun a b => Mk.n a < Mk.n b
theorem asc_ext : ∀ {L L' : List Mk}, Asc L → Asc L' → (∀ x, x ∈ L ↔ x ∈ L') → L = L'
  | [], [], _, _, _ => rfl
  | [], b :: L', _, _, h => absurd ((h b).2 (by simp)) (by simp)
  | a :: L, [], _, _, h => absurd ((h a).1 (by simp)) (by simp)
  | a :: L, b :: L', h1, h2, h => by
    have h1 := List.pairwise_cons.1 h1
    have h2 := List.pairwise_cons.1 h2
    have hab : a = b := by
      rcases List.mem_cons.1 ((h a).1 (by simp)) with e | ha
      · exact e
      rcases List.mem_cons.1 ((h b).2 (by simp)) with e | hb
      · exact e.symm
      have h3 := h2.1 a ha
      have h4 := h1.1 b hb
      omega
    subst hab
    rw [asc_ext h1.2 h2.2 fun x => ⟨fun hx => ?_, fun hx => ?_⟩]
    · rcases List.mem_cons.1 ((h x).1 (List.mem_cons_of_mem _ hx)) with e | h'
      · subst e
        have := h1.1 _ hx
        omega
      · exact h'
    · rcases List.mem_cons.1 ((h x).2 (List.mem_cons_of_mem _ hx)) with e | h'
      · subst e
        have := h2.1 _ hx
        omega
      · exact h'

/-- Where a mark comes in. -/
def pl : List Mk → Mk → Nat
  | [], _ => 0
  | x :: l, m => if Mk.n x < Mk.n m then pl l m + 1 else 0
theorem pl_le : ∀ (l : List Mk) (m : Mk), pl l m ≤ l.length
  | [], _ => by simp [pl]
  | x :: l, m => by
    have := pl_le l m
    rw [pl, List.length_cons]
    split <;> omega
theorem pl_lt : ∀ {l : List Mk} {m : Mk} {i : Nat} {x : Mk}, i < pl l m → l[i]? = some x → Mk.n x < Mk.n m
  | [], _, _, _, h, _ => by simp [pl] at h
  | y :: l, m, i, x, h, hx => by
    rw [pl] at h
    split at h
    · cases i with
      | zero => simp at hx; subst hx; assumption
      | succ i => exact pl_lt (l := l) (i := i) (by omega) (by simpa using hx)
    · omega
theorem pl_ge : ∀ {l : List Mk} {m x : Mk}, l[pl l m]? = some x → ¬ Mk.n x < Mk.n m
  | [], _, _, h => by simp at h
  | y :: l, m, x, h => by
    rw [pl] at h
    split at h
    · exact pl_ge (l := l) (by simpa using h)
    · simp at h; subst h; assumption
theorem pl_eq {l : List Mk} {m : Mk} {k : Nat} (hk : k ≤ l.length) (h1 : k ≤ pl l m) (h2 : ∀ x, l[k]? = some x → ¬ Mk.n x < Mk.n m) : k = pl l m := by
  rcases Nat.lt_or_ge k (pl l m) with h | h
  · have := pl_le l m
    have hg : l[k]? = some (l[k]'(by omega)) := List.getElem?_eq_getElem _
    exact absurd (pl_lt h hg) (h2 _ hg)
  · omega
theorem pl_next {l : List Mk} {m : Mk} {k : Nat} {x : Mk} (hk : k ≤ pl l m) (hx : l[k]? = some x) (h : Mk.n x < Mk.n m) : k + 1 ≤ pl l m := by
  rcases Nat.lt_or_ge k (pl l m) with h' | h'
  · omega
  · have e : k = pl l m := by omega
    subst e
    exact absurd h (pl_ge hx)
/-- Of a list in order all behind that place are not ahead. -/
theorem pl_asc {l : List Mk} (ha : Asc l) {m : Mk} {i : Nat} {x : Mk} (hi : pl l m ≤ i) (hx : l[i]? = some x) : ¬ Mk.n x < Mk.n m := by
  rcases Nat.eq_or_lt_of_le hi with e | h
  · subst e; exact pl_ge hx
  · have hil := (List.getElem?_eq_some_iff.1 hx).1
    have hg : l[pl l m]? = some (l[pl l m]'(by omega)) := List.getElem?_eq_getElem _
    have h1 := pl_ge hg
    have h2 := List.pairwise_iff_getElem.1 ha (pl l m) i (by omega) hil h
    have h3 : l[i] = x := (List.getElem?_eq_some_iff.1 hx).2
    rw [h3] at h2
    omega
theorem count_below (k : Nat) : ∀ (n : Nat), (List.range n).countP (fun i => decide (i < k)) = min k n
  | 0 => by simp
  | n + 1 => by
    rw [List.range_succ, List.countP_append, count_below k n]
    by_cases h : n < k
    · simp [h]; omega
    · simp [h]; omega
/-- How many are ahead, of a list in order. -/
theorem pl_count {l : List Mk} (ha : Asc l) (m : Mk) (f : Nat → Bool) (hf : ∀ i x, l[i]? = some x → f i = decide (Mk.n x < Mk.n m)) : (List.range l.length).countP f = pl l m := by
  have h : (List.range l.length).countP f = (List.range l.length).countP (fun i => decide (i < pl l m)) := by
    refine List.countP_congr fun i hi => ?_
    have hi := List.mem_range.1 hi
    have hg : l[i]? = some l[i] := List.getElem?_eq_getElem _
    rw [hf i _ hg]
    rcases Nat.lt_or_ge i (pl l m) with h | h
    · simp [h, pl_lt h hg]
    · have h1 := pl_asc ha h hg
      simp only [decide_eq_true_iff]
      omega
  rw [h, count_below, Nat.min_eq_left (pl_le l m)]
/-- A line with a mark. -/
def ins (l : List Mk) (m : Mk) : List Mk := if l[pl l m]? = some m then l else l.take (pl l m) ++ m :: l.drop (pl l m)
theorem ins_there {l : List Mk} {m : Mk} (h : l[pl l m]? = some m) : ins l m = l := by rw [ins, if_pos h]
theorem ins_new {l : List Mk} {m : Mk} (h : ¬ l[pl l m]? = some m) : ins l m = l.take (pl l m) ++ m :: l.drop (pl l m) := by rw [ins, if_neg h]
theorem ins_mem (l : List Mk) (m x : Mk) : x ∈ ins l m ↔ x ∈ l ∨ x = m := by
  rw [ins]
  split
  · rename_i h
    refine ⟨Or.inl, fun h' => h'.elim id fun e => ?_⟩
    rw [e]
    exact List.mem_of_getElem? h
  · have h2 : x ∈ l ↔ x ∈ l.take (pl l m) ∨ x ∈ l.drop (pl l m) := by rw [← List.mem_append, List.take_append_drop]
    rw [h2, List.mem_append, List.mem_cons]
    constructor
    · rintro (h | h | h)
      · exact Or.inl (Or.inl h)
      · exact Or.inr h
      · exact Or.inl (Or.inr h)
    · rintro ((h | h) | h)
      · exact Or.inl h
      · exact Or.inr (Or.inr h)
      · exact Or.inr (Or.inl h)
theorem ins_len (l : List Mk) (m : Mk) : (ins l m).length ≤ l.length + 1 := by
  rw [ins]
  split
  · omega
  · rw [List.length_append, List.length_cons, List.length_take, List.length_drop]; omega
theorem ins_asc {l : List Mk} (ha : Asc l) (m : Mk) : Asc (ins l m) := by
  by_cases h : l[pl l m]? = some m
  · rw [ins_there h]; exact ha
  rw [ins_new h]
  have hs : Asc (l.take (pl l m) ++ l.drop (pl l m)) := by rw [List.take_append_drop]; exact ha
  have hp := List.pairwise_append.1 hs
  refine List.pairwise_append.2 ⟨hp.1, List.pairwise_cons.2 ⟨fun x hx => ?_, hp.2.1⟩, fun x hx y hy => ?_⟩
  · obtain ⟨i, hi⟩ := List.mem_iff_getElem?.1 hx
    rw [List.getElem?_drop] at hi
    have h1 := pl_asc ha (m := m) (i := pl l m + i) (by omega) hi
    have h2 : x ≠ m := by
      intro e
      subst e
      rcases Nat.eq_zero_or_pos i with e | e
      · subst e; exact h hi
      · have hil := (List.getElem?_eq_some_iff.1 hi).1
        have hg : l[pl l x]? = some (l[pl l x]'(by omega)) := List.getElem?_eq_getElem _
        have h3 := List.pairwise_iff_getElem.1 ha (pl l x) (pl l x + i) (by omega) hil (by omega)
        rw [(List.getElem?_eq_some_iff.1 hi).2] at h3
        exact pl_ge hg h3
    have h3 : Mk.n x ≠ Mk.n m := fun e => h2 (Mk.n_inj e)
    omega
  · have hxm : Mk.n x < Mk.n m := by
      obtain ⟨i, hi⟩ := List.mem_iff_getElem?.1 hx
      have hil := (List.getElem?_eq_some_iff.1 hi).1
      rw [List.length_take] at hil
      rw [List.getElem?_take_of_lt (by omega)] at hi
      exact pl_lt (by omega) hi
    rcases List.mem_cons.1 hy with e | hy
    · subst e; exact hxm
    · exact hp.2.2 x hx y hy
/-- Marks as a line. -/
def So (D : List Mk) : List Mk := D.foldl ins []
theorem So_next {D : List Mk} {k : Nat} {x : Mk} (h : D[k]? = some x) : So (D.take (k + 1)) = ins (So (D.take k)) x := by
  unfold So
  rw [List.take_add_one, h, List.foldl_append]
  rfl
theorem foldl_asc : ∀ (D : List Mk) {l : List Mk}, Asc l → Asc (D.foldl ins l)
  | [], _, h => h
  | x :: D, _, h => foldl_asc D (ins_asc h x)
theorem foldl_mem : ∀ (D : List Mk) (l : List Mk) (x : Mk), x ∈ D.foldl ins l ↔ x ∈ l ∨ x ∈ D
  | [], l, x => by simp
  | y :: D, l, x => by
    rw [List.foldl_cons, foldl_mem D, ins_mem, List.mem_cons]
    exact or_assoc
theorem foldl_len : ∀ (D : List Mk) (l : List Mk), (D.foldl ins l).length ≤ l.length + D.length
  | [], l => by simp
  | y :: D, l => by
    have h1 := foldl_len D (ins l y)
    have h2 := ins_len l y
    rw [List.foldl_cons, List.length_cons]
    omega
theorem So_asc (D : List Mk) : Asc (So D) := foldl_asc D (by simp [Asc])
theorem So_mem (D : List Mk) (x : Mk) : x ∈ So D ↔ x ∈ D := by unfold So; rw [foldl_mem]; simp
theorem So_len (D : List Mk) : (So D).length ≤ D.length := by have := foldl_len D []; simpa [So] using this
theorem So_ext {D D' : List Mk} (h : ∀ x, x ∈ D ↔ x ∈ D') : So D = So D' := asc_ext (So_asc D) (So_asc D') fun x => by rw [So_mem, So_mem, h]
theorem So_of {D L : List Mk} (ha : Asc L) (h : ∀ x, x ∈ L ↔ x ∈ D) : L = So D := asc_ext ha (So_asc D) fun x => by rw [So_mem, h]

end Go.Proofs.Ytocgeemjdlnabaa
