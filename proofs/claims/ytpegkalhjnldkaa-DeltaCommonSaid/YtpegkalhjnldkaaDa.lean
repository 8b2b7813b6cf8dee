/- The longest common part of two lists: by a table of suffixes, and by the places where parts may end. Mathematics. -/
import Derived.Test.YtpegkalhjnldkaaRowz
import Derived.Lib.Small
namespace Go.Proofs.Ytpegkalhjnldkaa
set_option linter.unusedSimpArgs false
set_option linter.unusedVariables false
namespace Lcs
def lcs : List Int → List Int → Nat
  | [], _ => 0
  | _ :: _, [] => 0
  | x :: a, y :: b => max (max (lcs a (y :: b)) (lcs (x :: a) b)) (if x = y then 1 + lcs a b else 0)
termination_by a b => a.length + b.length

theorem lcs_nil_left (b : List Int) : lcs [] b = 0 := by rw [lcs]
theorem lcs_nil_right (a : List Int) : lcs a [] = 0 := by cases a <;> rw [lcs]
theorem lcs_cons (x y : Int) (a b : List Int) : lcs (x :: a) (y :: b) = max (max (lcs a (y :: b)) (lcs (x :: a) b)) (if x = y then 1 + lcs a b else 0) := by rw [lcs]

theorem le_lcs (a b : List Int) : ∀ c : List Int, c.Sublist a → c.Sublist b → c.length ≤ lcs a b := by
  induction a generalizing b with
  | nil => intro c h _; cases h; simp
  | cons x a iha =>
    induction b with
    | nil => intro c _ h; cases h; simp
    | cons y b ihb =>
      intro c h1 h2
      rw [lcs_cons]
      cases h1 with
      | cons _ h => have := iha (y :: b) c h h2; omega
      | cons_cons _ h =>
        rename_i c'
        cases h2 with
        | cons _ h' => have := ihb _ (List.Sublist.cons_cons x h) h'; omega
        | cons_cons _ h' => have := iha b c' h h'; simp; omega

theorem ex_lcs (a b : List Int) : ∃ c : List Int, c.Sublist a ∧ c.Sublist b ∧ c.length = lcs a b := by
  induction a generalizing b with
  | nil => exact ⟨[], List.nil_sublist _, List.nil_sublist _, by rw [lcs_nil_left]; rfl⟩
  | cons x a iha =>
    induction b with
    | nil => exact ⟨[], List.nil_sublist _, List.nil_sublist _, by rw [lcs_nil_right]; rfl⟩
    | cons y b ihb =>
      obtain ⟨c1, h1, h1', e1⟩ := iha (y :: b)
      obtain ⟨c2, h2, h2', e2⟩ := ihb
      obtain ⟨c3, h3, h3', e3⟩ := iha b
      rw [lcs_cons]
      by_cases hm : (if x = y then 1 + lcs a b else 0) ≤ max (lcs a (y :: b)) (lcs (x :: a) b)
      · by_cases hn : lcs a (y :: b) ≤ lcs (x :: a) b
        · exact ⟨c2, h2, h2'.cons y, by omega⟩
        · exact ⟨c1, h1.cons x, h1', by omega⟩
      · by_cases hxy : x = y
        · subst hxy
          refine ⟨x :: c3, h3.cons_cons x, h3'.cons_cons x, ?_⟩
          simp at hm ⊢; omega
        · simp [hxy] at hm

theorem lcs_rev (a b : List Int) : lcs a.reverse b.reverse = lcs a b := by
  apply Nat.le_antisymm
  · obtain ⟨c, h, h', e⟩ := ex_lcs a.reverse b.reverse
    have := le_lcs a b c.reverse (by simpa using h.reverse) (by simpa using h'.reverse)
    simpa [e] using this
  · obtain ⟨c, h, h', e⟩ := ex_lcs a b
    have := le_lcs a.reverse b.reverse c.reverse h.reverse h'.reverse
    simpa [e] using this

theorem lcs_self (a : List Int) : lcs a a = a.length := by
  apply Nat.le_antisymm
  · obtain ⟨c, h, _, e⟩ := ex_lcs a a
    rw [← e]; exact h.length_le
  · exact le_lcs a a a (List.Sublist.refl a) (List.Sublist.refl a)

/-- row: what the first j of a have in common with b -/
def R (a b : List Int) (j : Nat) : Nat := lcs (a.take j).reverse b.reverse

theorem R_nil (a : List Int) (j : Nat) : R a [] j = 0 := by simp [R, lcs_nil_right]
theorem R_zero (a b : List Int) : R a b 0 = 0 := by simp [R, lcs_nil_left]
theorem R_all (a b : List Int) : R a b a.length = lcs a b := by simp [R, lcs_rev]
theorem take_rev (a : List Int) (j : Nat) (h : j < a.length) : (a.take (j + 1)).reverse = a[j] :: (a.take j).reverse := by
  rw [List.take_succ_eq_append_getElem h]; simp
theorem R_step (a b : List Int) (n : Int) (j : Nat) (h : j < a.length) :
    R a (b ++ [n]) (j + 1) = max (max (R a (b ++ [n]) j) (R a b (j + 1))) (if a[j] = n then 1 + R a b j else 0) := by
  simp only [R, List.reverse_append, List.reverse_cons, List.reverse_nil, List.nil_append, List.singleton_append, take_rev a j h]
  rw [lcs_cons]
theorem R_mono (a b : List Int) (j : Nat) (h : j < a.length) : R a b j ≤ R a b (j + 1) := by
  obtain ⟨c, h1, h2, e⟩ := ex_lcs (a.take j).reverse b.reverse
  unfold R; rw [← e]
  refine le_lcs _ _ c ?_ h2
  rw [take_rev a j h]; exact h1.cons _

/-- beside positions from t on that may end with n -/
def T (a b : List Int) (n : Int) (t : Nat) : Nat → Nat
  | 0 => 0
  | j + 1 => max (max (T a b n t j) (R a b (j + 1))) (if a[j]? = some n ∧ t ≤ j then 1 + R a b j else 0)

theorem T_zero (a b : List Int) (n : Int) : ∀ j, j ≤ a.length → T a b n 0 j = R a (b ++ [n]) j := by
  intro j
  induction j with
  | zero => intro _; simp [T, R_zero]
  | succ j ih =>
    intro h
    have hj : j < a.length := by omega
    rw [T, R_step a b n j hj, ih (by omega)]
    simp [List.getElem?_eq_getElem hj]
theorem T_low (a b : List Int) (n : Int) (t : Nat) : ∀ j, j ≤ t → j ≤ a.length → T a b n t j = R a b j := by
  intro j
  induction j with
  | zero => intro _ _; simp [T, R_zero]
  | succ j ih =>
    intro h h'
    have h1 := R_mono a b j (by omega)
    rw [T, ih (by omega) (by omega), if_neg (by omega)]; omega
theorem T_mono (a b : List Int) (n : Int) (t : Nat) (j : Nat) : T a b n t j ≤ T a b n t (j + 1) := by rw [T]; omega
theorem T_skip (a b : List Int) (n : Int) (t : Nat) (h : a[t]? ≠ some n) : ∀ j, T a b n t j = T a b n (t + 1) j := by
  intro j
  induction j with
  | zero => rfl
  | succ j ih =>
    rw [T, T, ih]
    by_cases hj : j = t
    · subst hj; simp [h]
    · have : (t ≤ j) ↔ (t + 1 ≤ j) := by omega
      simp only [this]
theorem T_take (a b : List Int) (n : Int) (t : Nat) (h : a[t]? = some n) (ht : t < a.length) :
    ∀ j, j ≤ a.length → T a b n t j = if j ≤ t then R a b j else max (T a b n (t + 1) j) (R a b t + 1) := by
  intro j
  induction j with
  | zero => intro _; simp [T, R_zero]
  | succ j ih =>
    intro h'
    by_cases hj : j + 1 ≤ t
    · rw [if_pos hj]; exact T_low a b n t (j + 1) hj h'
    · rw [if_neg hj, T, T, ih (by omega)]
      by_cases hjt : j = t
      · subst hjt
        rw [if_pos (Nat.le_refl _), if_pos ⟨h, Nat.le_refl _⟩, if_neg (by omega), T_low a b n (j + 1) j (by omega) (by omega)]
        omega
      · rw [if_neg (by omega)]
        have h1 : (t ≤ j) := by omega
        have h2 : (t + 1 ≤ j) := by omega
        simp only [h1, h2, and_true]
        omega

/-- how many of a list are below j -/
def cnt (E : List Nat) (j : Nat) : Nat := E.countP (· < j)
/-- i put in its place -/
def put (E : List Nat) (i : Nat) : List Nat := E.take (cnt E i) ++ [i] ++ E.drop (cnt E i + 1)

theorem cnt_sorted (E : List Nat) (h : E.Pairwise (· < ·)) (i : Nat) : (∀ x ∈ E.take (cnt E i), x < i) ∧ (∀ x ∈ E.drop (cnt E i), i ≤ x) := by
  induction E with
  | nil => simp
  | cons e E ih =>
    have hE := (List.pairwise_cons.1 h).2
    have he := (List.pairwise_cons.1 h).1
    obtain ⟨ih1, ih2⟩ := ih hE
    by_cases hi : e < i
    · have hc : cnt (e :: E) i = cnt E i + 1 := by simp [cnt, List.countP_cons, hi]
      rw [hc]
      simp only [List.take_succ_cons, List.drop_succ_cons, List.mem_cons]
      exact ⟨fun x hx => by rcases hx with rfl | hx; exact hi; exact ih1 x hx, ih2⟩
    · have hz : ∀ x ∈ E, ¬ x < i := fun x hx => by have := he x hx; omega
      have hc0 : cnt E i = 0 := by
        simp only [cnt]; rw [List.countP_eq_zero]; intro x hx; simpa using hz x hx
      have hc : cnt (e :: E) i = 0 := by
        have : cnt (e :: E) i = cnt E i := by simp [cnt, List.countP_cons, hi]
        omega
      rw [hc]
      refine ⟨by simp, ?_⟩
      intro x hx
      simp at hx
      rcases hx with rfl | hx
      · omega
      · have := hz x hx; omega

theorem cnt_le (E : List Nat) (i : Nat) : cnt E i ≤ E.length := List.countP_le_length

theorem cnt_append (A B : List Nat) (j : Nat) : cnt (A ++ B) j = cnt A j + cnt B j := by simp [cnt, List.countP_append]
theorem cnt_all (A : List Nat) (j : Nat) (h : ∀ x ∈ A, x < j) : cnt A j = A.length := by
  simp only [cnt]; rw [List.countP_eq_length]; intro x hx; simpa using h x hx
theorem cnt_none (A : List Nat) (j : Nat) (h : ∀ x ∈ A, j ≤ x) : cnt A j = 0 := by
  simp only [cnt]; rw [List.countP_eq_zero]; intro x hx; have := h x hx; simp; omega

theorem put_sorted (E : List Nat) (h : E.Pairwise (· < ·)) (i : Nat) : (put E i).Pairwise (· < ·) := by
  obtain ⟨h1, h2⟩ := cnt_sorted E h i
  have hd : (E.drop (cnt E i)).Pairwise (· < ·) := h.sublist (List.drop_sublist _ _)
  have ht : (E.take (cnt E i)).Pairwise (· < ·) := h.sublist (List.take_sublist _ _)
  have hd1 : ∀ x ∈ E.drop (cnt E i + 1), i < x := by
    intro x hx
    cases hE : E.drop (cnt E i) with
    | nil => 
      have : E.drop (cnt E i + 1) = [] := by rw [← List.drop_drop, hE]; rfl
      rw [this] at hx; simp at hx
    | cons e D =>
      have e1 : E.drop (cnt E i + 1) = D := by rw [← List.drop_drop, hE]; rfl
      rw [e1] at hx
      rw [hE] at hd h2
      have := (List.pairwise_cons.1 hd).1 x hx
      have := h2 e (by simp)
      omega
  have hd2 : (E.drop (cnt E i + 1)).Pairwise (· < ·) := h.sublist (List.drop_sublist _ _)
  unfold put
  rw [List.append_assoc, List.pairwise_append]
  refine ⟨ht, ?_, ?_⟩
  · simp only [List.singleton_append, List.pairwise_cons]
    exact ⟨hd1, hd2⟩
  · intro x hx y hy
    have := h1 x hx
    simp at hy
    rcases hy with rfl | hy
    · exact this
    · have := hd1 y hy; omega

theorem cnt_put (E : List Nat) (h : E.Pairwise (· < ·)) (i j : Nat) :
    cnt (put E i) j = if j ≤ i then cnt E j else max (cnt E j) (cnt E i + 1) := by
  obtain ⟨h1, h2⟩ := cnt_sorted E h i
  have hsplit : cnt E j = cnt (E.take (cnt E i)) j + cnt (E.drop (cnt E i)) j := by
    conv => lhs; rw [← List.take_append_drop (cnt E i) E]
    rw [cnt_append]
  have hl : (E.take (cnt E i)).length = cnt E i := by rw [List.length_take]; have := cnt_le E i; omega
  have hput : cnt (put E i) j = cnt (E.take (cnt E i)) j + (if i < j then 1 else 0) + cnt (E.drop (cnt E i + 1)) j := by
    unfold put; rw [cnt_append, cnt_append]; simp [cnt, List.countP_cons]
  have hd : cnt (E.drop (cnt E i)) j = match E.drop (cnt E i) with | [] => 0 | e :: _ => (if e < j then 1 else 0) + cnt (E.drop (cnt E i + 1)) j := by
    cases hE : E.drop (cnt E i) with
    | nil => simp [cnt]
    | cons e D =>
      have e1 : E.drop (cnt E i + 1) = D := by rw [← List.drop_drop, hE]; rfl
      rw [e1]; simp only [cnt, List.countP_cons]; by_cases he : e < j <;> simp [he] <;> omega
  by_cases hj : j ≤ i
  · rw [if_pos hj, hput, hsplit, if_neg (by omega)]
    have z1 : cnt (E.drop (cnt E i)) j = 0 := cnt_none _ _ fun x hx => by have := h2 x hx; omega
    have z2 : cnt (E.drop (cnt E i + 1)) j = 0 := cnt_none _ _ fun x hx => by
      have : x ∈ E.drop (cnt E i) := by
        rw [← List.drop_drop] at hx; exact List.mem_of_mem_drop hx
      have := h2 x this; omega
    omega
  · rw [if_neg hj, hput, if_pos (by omega), hsplit]
    have z1 : cnt (E.take (cnt E i)) j = cnt E i := by
      rw [cnt_all _ _ fun x hx => by have := h1 x hx; omega]; exact hl
    rw [z1]
    cases hE : E.drop (cnt E i) with
    | nil =>
      rw [hE] at hd
      have e1 : E.drop (cnt E i + 1) = [] := by rw [← List.drop_drop, hE]; rfl
      rw [e1]; simp [cnt]
    | cons e D =>
      rw [hE] at hd
      have e1 : E.drop (cnt E i + 1) = D := by rw [← List.drop_drop, hE]; rfl
      rw [e1] at hd ⊢
      simp only at hd
      by_cases he : e < j
      · rw [if_pos he] at hd; omega
      · rw [if_neg he] at hd
        have hDs : (e :: D).Pairwise (· < ·) := by rw [← hE]; exact h.sublist (List.drop_sublist _ _)
        have z3 : cnt D j = 0 := cnt_none _ _ fun x hx => by have := (List.pairwise_cons.1 hDs).1 x hx; omega
        omega

/-- what the ends say -/
structure Inv (a b : List Int) (E : List Nat) : Prop where
  sorted : E.Pairwise (· < ·)
  below : ∀ e ∈ E, e < a.length
  count : ∀ j, j ≤ a.length → cnt E j = R a b j
structure InT (a b : List Int) (n : Int) (t : Nat) (E : List Nat) : Prop where
  sorted : E.Pairwise (· < ·)
  below : ∀ e ∈ E, e < a.length
  count : ∀ j, j ≤ a.length → cnt E j = T a b n t j

theorem InT.first {a b E} (h : Inv a b E) (n : Int) : InT a b n a.length E := ⟨h.sorted, h.below, fun j hj => by rw [h.count j hj, T_low a b n _ j hj hj]⟩
theorem InT.last {a b n E} (h : InT a b n 0 E) : Inv a (b ++ [n]) E := ⟨h.sorted, h.below, fun j hj => by rw [h.count j hj, T_zero a b n j hj]⟩
theorem mem_put {E : List Nat} {i e : Nat} (h : e ∈ put E i) : e ∈ E ∨ e = i := by
  unfold put at h; simp at h
  rcases h with h | h | h
  · exact .inl (List.mem_of_mem_take h)
  · exact .inr h
  · exact .inl (List.mem_of_mem_drop h)
theorem InT.step {a b n t E} (h : InT a b n (t + 1) E) (ht : t < a.length) (hn : a[t]? = some n) : InT a b n t (put E t) :=
  ⟨put_sorted E h.sorted t, fun e he => by rcases mem_put he with h1 | rfl; exact h.below e h1; exact ht, fun j hj => by
    rw [cnt_put E h.sorted t j, T_take a b n t hn ht j hj, h.count j hj, h.count t (by omega), T_low a b n (t + 1) t (by omega) (by omega)]
    by_cases hjt : j ≤ t
    · rw [if_pos hjt, if_pos hjt, T_low a b n (t + 1) j (by omega) hj]
    · rw [if_neg hjt, if_neg hjt]⟩
theorem InT.skip {a b n t E} (h : InT a b n (t + 1) E) (hn : a[t]? ≠ some n) : InT a b n t E :=
  ⟨h.sorted, h.below, fun j hj => by rw [T_skip a b n t hn j]; exact h.count j hj⟩

/-- the places of n from t on, the last one first -/
def plc (a : List Int) (n : Int) : Nat → List Nat
  | 0 => []
  | k + 1 => plc a n k ++ (if a[a.length - (k + 1)]? = some n then [a.length - (k + 1)] else [])
def places (a : List Int) (n : Int) : List Nat := plc a n a.length
theorem Inv.plc {a b n E} (h : Inv a b E) : ∀ k, k ≤ a.length → InT a b n (a.length - k) ((plc a n k).foldl put E) := by
  intro k
  induction k with
  | zero => intro _; exact InT.first h n
  | succ k ih =>
    intro hk
    have ih := ih (by omega)
    have e : a.length - k = (a.length - (k + 1)) + 1 := by omega
    rw [e] at ih
    rw [Lcs.plc, List.foldl_append]
    by_cases hn : a[a.length - (k + 1)]? = some n
    · rw [if_pos hn]; exact ih.step (by omega) hn
    · rw [if_neg hn]; exact ih.skip hn
theorem Inv.step {a b n E} (h : Inv a b E) : Inv a (b ++ [n]) ((places a n).foldl put E) := by
  have := h.plc (n := n) a.length (Nat.le_refl _)
  rw [Nat.sub_self] at this
  exact this.last
def ends (a b : List Int) : List Nat := b.foldl (fun E n => (places a n).foldl put E) []
theorem ends_append (a b : List Int) (n : Int) : ends a (b ++ [n]) = (places a n).foldl put (ends a b) := by simp [ends]
theorem inv_ends (a b : List Int) : Inv a b (ends a b) := by
  have key : ∀ (c : List Int), Inv a c.reverse (ends a c.reverse) := by
    intro c
    induction c with
    | nil => exact ⟨List.Pairwise.nil, by simp [ends], fun j _ => by simp [ends, cnt, R_nil]⟩
    | cons n c ih => rw [List.reverse_cons, ends_append]; exact ih.step
  have := key b.reverse
  simpa using this
theorem ends_length (a b : List Int) : (ends a b).length = lcs a b := by
  have h := inv_ends a b
  rw [← R_all, ← h.count a.length (Nat.le_refl _)]
  exact (cnt_all _ _ h.below).symm
end Lcs
#print axioms Lcs.ends_length
#print axioms Lcs.lcs_self

end Go.Proofs.Ytpegkalhjnldkaa
