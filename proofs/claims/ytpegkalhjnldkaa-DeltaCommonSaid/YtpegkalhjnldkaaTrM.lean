/- What is right, how deep it is, what fits, what the default is: plain functions on trees; nothing of a program. -/
import Derived.Test.YtpegkalhjnldkaaTree
import GoSem.Op.String
namespace Go.Proofs.Ytpegkalhjnldkaa

/-- A byte of a text, as a number. -/
def sat (s : ByteArray) (i : Nat) : Nat := (s.data.toList.getD i 0).toNat
def letB (c : Nat) : Bool := (decide (97 ≤ c) && decide (c ≤ 122)) || (decide (48 ≤ c) && decide (c ≤ 57)) || decide (c = 95)
def nameB (s : ByteArray) : Bool := decide (1 ≤ s.size) && decide (s.size ≤ 12) && (List.range s.size).all fun i => letB (sat s i)
def eqS (a b : ByteArray) : Bool := a.toList == b.toList
def ltS (a b : ByteArray) : Bool := Go.Op.bytesLess a.toList b.toList
def nth (l : List ByteArray) (i : Nat) : ByteArray := l.getD i ByteArray.empty
/-- Names, each behind the one before. -/
def riseB (l : List ByteArray) : Bool := (List.range l.length).all fun i => nameB (nth l i) && (decide (i = 0) || ltS (nth l (i - 1)) (nth l i))
/-- Names, unlike each other. -/
def wordsB (l : List ByteArray) : Bool := (List.range l.length).all fun i => nameB (nth l i) && (List.range i).all fun j => !eqS (nth l i) (nth l j)
def idsB (l : List Int) : Bool := (List.range l.length).all fun i => decide (l.getD i 0 ≠ 0) && (List.range i).all fun j => decide (l.getD i 0 ≠ l.getD j 0)
def eqL (l m : List ByteArray) : Bool := decide (l.length = m.length) && (List.range l.length).all fun i => eqS (nth l i) (nth m i)

/-- What a value's own fields have to be. -/
def headV (k n : Int) (s : ByteArray) (names : List ByteArray) (ids : List Int) (len : Nat) : Bool :=
  if k = 1 then decide (n = 0 ∨ n = 1) && decide (s.size = 0) && decide (names.length = 0) && decide (ids.length = 0) && decide (len = 0)
  else if k = 2 then decide (s.size = 0) && decide (names.length = 0) && decide (ids.length = 0) && decide (len = 0)
  else if k = 3 then decide (n = 0) && decide (s.size ≤ 64) && decide (names.length = 0) && decide (ids.length = 0) && decide (len = 0)
  else if k = 4 then decide (n = 0) && nameB s && decide (names.length = 0) && decide (ids.length = 0) && decide (len = 0)
  else if k = 5 then decide (n = 0) && decide (s.size = 0) && decide (ids.length = 0) && decide (names.length ≤ 8) && decide (len = names.length) && riseB names
  else if k = 6 then decide (n = 0) && decide (s.size = 0) && decide (names.length = 0) && decide (ids.length ≤ 12) && decide (len = ids.length) && idsB ids
  else false
/-- What a schema's own fields have to be. -/
def headS (k : Int) (words : List ByteArray) (len : Nat) : Bool :=
  if k = 1 ∨ k = 2 ∨ k = 3 then decide (words.length = 0) && decide (len = 0)
  else if k = 4 then decide (1 ≤ words.length) && decide (words.length ≤ 8) && wordsB words && decide (len = 0)
  else if k = 5 then decide (words.length ≤ 8) && decide (len = words.length) && riseB words
  else if k = 6 then decide (words.length = 0) && decide (len = 1)
  else false
/-- The greatest of the first ones. -/
def most (f : Nat → Nat) : Nat → Nat
  | 0 => 0
  | n + 1 => max (most f n) (f n)
theorem most_le {f : Nat → Nat} {m : Nat} : ∀ {n : Nat}, most f n ≤ m ↔ ∀ i, i < n → f i ≤ m
  | 0 => ⟨fun _ i h => absurd h (Nat.not_lt_zero i), fun _ => Nat.zero_le _⟩
  | n + 1 => by
    rw [most, Nat.max_le, most_le (n := n)]
    refine ⟨fun h i hi => ?_, fun h => ⟨fun i hi => h i (by omega), h n (by omega)⟩⟩
    rcases Nat.lt_or_ge i n with h1 | h1
    · exact h.1 i h1
    · obtain rfl : i = n := by omega
      exact h.2
def Vt.depth : Vt → Nat
  | .nul => 0
  | .mk _ _ _ _ _ len parts => most (fun i => (parts i).depth) len + 1
def St.depth : St → Nat
  | .nul => 0
  | .mk _ _ len parts => most (fun i => (parts i).depth) len + 1
def Vt.sound : Vt → Bool
  | .nul => false
  | .mk k n s names ids len parts => headV k n s names ids len && (List.range len).all fun i => (parts i).sound
def St.sound : St → Bool
  | .nul => false
  | .mk k words len parts => headS k words len && (List.range len).all fun i => (parts i).sound
/-- Right, where it lies so deep. -/
def Vt.rightAt (v : Vt) (d : Nat) : Bool := decide (d + v.depth ≤ 6) && v.sound
def St.rightAt (v : St) (d : Nat) : Bool := decide (d + v.depth ≤ 6) && v.sound
theorem Vt.rightAt_mk {k n : Int} {s : ByteArray} {names : List ByteArray} {ids : List Int} {len : Nat} {parts : Nat → Vt} (d : Nat) :
    (Vt.mk k n s names ids len parts).rightAt d = (decide (d ≤ 5) && headV k n s names ids len && (List.range len).all fun i => (parts i).rightAt (d + 1)) := by
  unfold Vt.rightAt
  rw [Vt.depth, Vt.sound, Bool.eq_iff_iff]
  simp only [Bool.and_eq_true, decide_eq_true_eq, List.all_eq_true, List.mem_range]
  constructor
  · rintro ⟨h1, h2, h3⟩
    have h4 : most (fun i => (parts i).depth) len ≤ 5 - d := by omega
    exact ⟨⟨by omega, h2⟩, fun i hi => ⟨by have := most_le.1 h4 i hi; omega, h3 i hi⟩⟩
  · rintro ⟨⟨h1, h2⟩, h3⟩
    have h4 : most (fun i => (parts i).depth) len ≤ 5 - d := most_le.2 fun i hi => by have := (h3 i hi).1; omega
    exact ⟨by omega, h2, fun i hi => (h3 i hi).2⟩
theorem St.rightAt_mk {k : Int} {words : List ByteArray} {len : Nat} {parts : Nat → St} (d : Nat) :
    (St.mk k words len parts).rightAt d = (decide (d ≤ 5) && headS k words len && (List.range len).all fun i => (parts i).rightAt (d + 1)) := by
  unfold St.rightAt
  rw [St.depth, St.sound, Bool.eq_iff_iff]
  simp only [Bool.and_eq_true, decide_eq_true_eq, List.all_eq_true, List.mem_range]
  constructor
  · rintro ⟨h1, h2, h3⟩
    have h4 : most (fun i => (parts i).depth) len ≤ 5 - d := by omega
    exact ⟨⟨by omega, h2⟩, fun i hi => ⟨by have := most_le.1 h4 i hi; omega, h3 i hi⟩⟩
  · rintro ⟨⟨h1, h2⟩, h3⟩
    have h4 : most (fun i => (parts i).depth) len ≤ 5 - d := most_le.2 fun i hi => by have := (h3 i hi).1; omega
    exact ⟨by omega, h2, fun i hi => (h3 i hi).2⟩
/-- Whether a value fits a schema, both being right. -/
def fitsV : Vt → St → Bool
  | .mk k _ s names _ len parts, .mk k' words _ parts' =>
    decide (k = k') && (if k = 4 then (List.range words.length).any fun i => eqS (nth words i) s
      else if k = 5 then eqL names words && (List.range len).all fun i => fitsV (parts i) (parts' i)
      else if k = 6 then (List.range len).all fun i => fitsV (parts i) (parts' 0)
      else true)
  | _, _ => false
/-- A schema's default. -/
def St.dflt : St → Vt
  | .nul => .nul
  | .mk k words _ parts => .mk k 0 (if k = 4 then nth words 0 else ByteArray.empty) (if k = 5 then words else []) [] (if k = 5 then words.length else 0) fun i => (parts i).dflt

theorem eqS_refl (a : ByteArray) : eqS a a = true := by unfold eqS; exact beq_self_eq_true _
theorem eqL_refl (l : List ByteArray) : eqL l l = true := by
  unfold eqL
  rw [decide_eq_true rfl, Bool.true_and, List.all_eq_true]
  exact fun i _ => eqS_refl _
theorem nameB_sz {s : ByteArray} (h : nameB s = true) : s.size ≤ 12 := by
  unfold nameB at h
  simp only [Bool.and_eq_true, decide_eq_true_eq] at h
  exact h.1.2
theorem riseB_name {l : List ByteArray} (h : riseB l = true) {i : Nat} (hi : i < l.length) : nameB (nth l i) = true := by
  unfold riseB at h
  have h1 := List.all_eq_true.1 h i (List.mem_range.2 hi)
  rw [Bool.and_eq_true] at h1
  exact h1.1
theorem wordsB_name {l : List ByteArray} (h : wordsB l = true) {i : Nat} (hi : i < l.length) : nameB (nth l i) = true := by
  unfold wordsB at h
  have h1 := List.all_eq_true.1 h i (List.mem_range.2 hi)
  rw [Bool.and_eq_true] at h1
  exact h1.1
theorem sz0 : ByteArray.empty.size = 0 := rfl
/-- The default of what is sound is so, no deeper, and fits. -/
theorem dflt_ok : ∀ {s : St}, s.sound = true → s.dflt.sound = true ∧ s.dflt.depth ≤ s.depth ∧ fitsV s.dflt s = true := by
  intro s
  induction s with
  | nul => intro h; cases h
  | mk k words len parts ih =>
    intro h
    rw [St.sound, Bool.and_eq_true, List.all_eq_true] at h
    obtain ⟨h1, h2⟩ := h
    have hp : ∀ i, i < len → (parts i).sound = true := fun i hi => h2 i (List.mem_range.2 hi)
    unfold headS at h1
    rw [St.dflt]
    by_cases c3 : k = 1 ∨ k = 2 ∨ k = 3
    · have e4 : ¬ k = 4 := by omega
      have e5 : ¬ k = 5 := by omega
      have e6 : ¬ k = 6 := by omega
      simp only [if_neg e4, if_neg e5]
      refine ⟨?_, by rw [Vt.depth, St.depth, most]; omega, by rw [fitsV, if_neg e4, if_neg e5, if_neg e6, decide_eq_true rfl]; rfl⟩
      rw [Vt.sound, List.range_zero, List.all_nil, Bool.and_true, headV]
      rcases c3 with rfl | rfl | rfl <;> decide
    · rw [if_neg c3] at h1
      by_cases e4 : k = 4
      · subst e4
        rw [if_pos rfl] at h1
        simp only [Bool.and_eq_true, decide_eq_true_eq] at h1
        rw [if_pos rfl, if_neg (show ¬ (4 : Int) = 5 by decide), if_neg (show ¬ (4 : Int) = 5 by decide)]
        refine ⟨?_, by rw [Vt.depth, St.depth, most]; omega, ?_⟩
        · rw [Vt.sound, List.range_zero, List.all_nil, Bool.and_true, headV, wordsB_name h1.1.2 (by omega), if_neg (by decide), if_neg (by decide), if_neg (by decide), if_pos rfl]
          rfl
        · rw [fitsV, decide_eq_true rfl, if_pos rfl, Bool.true_and, List.any_eq_true]
          exact ⟨0, List.mem_range.2 (by omega), eqS_refl _⟩
      · rw [if_neg e4] at h1
        by_cases e5 : k = 5
        · subst e5
          rw [if_pos rfl] at h1
          simp only [Bool.and_eq_true, decide_eq_true_eq] at h1
          obtain ⟨⟨h3, rfl⟩, h5⟩ := h1
          rw [if_neg e4, if_pos rfl, if_pos rfl]
          refine ⟨?_, ?_, ?_⟩
          · rw [Vt.sound, Bool.and_eq_true, List.all_eq_true]
            refine ⟨?_, fun i hi => (ih i (hp i (List.mem_range.1 hi))).1⟩
            rw [headV, if_neg (by decide), if_neg (by decide), if_neg (by decide), if_neg (by decide), if_pos rfl, h5, decide_eq_true h3, decide_eq_true (rfl : words.length = words.length)]
            rfl
          · rw [Vt.depth, St.depth]
            have := most_le.2 (fun i hi => Nat.le_trans (ih i (hp i hi)).2.1 (most_le.1 (Nat.le_refl (most (fun i => (parts i).depth) words.length)) i hi))
            omega
          · rw [fitsV, decide_eq_true rfl, if_neg e4, if_pos rfl, eqL_refl, Bool.true_and, Bool.true_and, List.all_eq_true]
            exact fun i hi => (ih i (hp i (List.mem_range.1 hi))).2.2
        · rw [if_neg e5] at h1
          by_cases e6 : k = 6
          · subst e6
            simp only [if_neg e4, if_neg e5]
            refine ⟨?_, by rw [Vt.depth, St.depth, most]; omega, ?_⟩
            · rw [Vt.sound, List.range_zero, List.all_nil, Bool.and_true, headV]
              decide
            · rw [fitsV, decide_eq_true rfl, if_neg e4, if_neg e5, if_pos rfl, List.range_zero]
              rfl
          · rw [if_neg e6] at h1
            cases h1

theorem bl_nil (x : List UInt8) : Go.Op.bytesLess x [] = false := by cases x <;> rfl
theorem bl_cons (a : UInt8) (x : List UInt8) (b : UInt8) (y : List UInt8) : Go.Op.bytesLess (a :: x) (b :: y) = true ↔ a < b ∨ (a = b ∧ Go.Op.bytesLess x y = true) := by
  rw [Go.Op.bytesLess, Bool.or_eq_true, Bool.and_eq_true, decide_eq_true_eq, beq_iff_eq]
theorem bl_trans : ∀ {x y z : List UInt8}, Go.Op.bytesLess x y = true → Go.Op.bytesLess y z = true → Go.Op.bytesLess x z = true
  | _, [], _, h, _ => by rw [bl_nil] at h; cases h
  | _, _, [], _, h => by rw [bl_nil] at h; cases h
  | [], _ :: _, _ :: _, _, _ => rfl
  | a :: x, b :: y, c :: z, h, k => by
    rw [bl_cons] at h k ⊢
    rcases h with h | ⟨rfl, h⟩
    · rcases k with k | ⟨rfl, k⟩
      · exact .inl (UInt8.lt_trans h k)
      · exact .inl h
    · rcases k with k | ⟨rfl, k⟩
      · exact .inl k
      · exact .inr ⟨rfl, bl_trans h k⟩
theorem bl_irrefl : ∀ (x : List UInt8), Go.Op.bytesLess x x = false
  | [] => rfl
  | a :: x => by
    rw [← Bool.not_eq_true, bl_cons]
    rintro (h | ⟨_, h⟩)
    · exact UInt8.lt_irrefl a h
    · rw [bl_irrefl x] at h; cases h
theorem bl_tri : ∀ (x y : List UInt8), Go.Op.bytesLess x y = true ∨ x = y ∨ Go.Op.bytesLess y x = true
  | [], [] => .inr (.inl rfl)
  | [], _ :: _ => .inl rfl
  | _ :: _, [] => .inr (.inr rfl)
  | a :: x, b :: y => by
    rw [bl_cons, bl_cons]
    rcases Nat.lt_trichotomy a.toNat b.toNat with h | h | h
    · exact .inl (.inl (UInt8.lt_iff_toNat_lt.2 h))
    · obtain rfl := UInt8.toNat_inj.1 h
      rcases bl_tri x y with h | rfl | h
      · exact .inl (.inr ⟨rfl, h⟩)
      · exact .inr (.inl rfl)
      · exact .inr (.inr (.inr ⟨rfl, h⟩))
    · exact .inr (.inr (.inl (UInt8.lt_iff_toNat_lt.2 h)))
theorem ltS_trans {a b c : ByteArray} (h : ltS a b = true) (k : ltS b c = true) : ltS a c = true := bl_trans h k
/-- Behind, and neither like it nor ahead of it: the same. -/
theorem ltS_iff {a b : ByteArray} : ltS a b = true ↔ (eqS b a || ltS b a) = false := by
  unfold ltS eqS
  rw [Bool.or_eq_false_iff, beq_eq_false_iff_ne]
  constructor
  · intro h
    refine ⟨fun e => ?_, ?_⟩
    · rw [e, bl_irrefl] at h; cases h
    · rw [← Bool.not_eq_true]
      intro k
      have := bl_trans h k
      rw [bl_irrefl] at this
      cases this
  · rintro ⟨h, k⟩
    rcases bl_tri a.toList b.toList with h1 | h1 | h1
    · exact h1
    · exact absurd h1.symm h
    · rw [k] at h1; cases h1
/-- Each behind all before it. -/
def pairB (l : List ByteArray) : Bool := (List.range l.length).all fun i => nameB (nth l i) && (List.range i).all fun j => !(eqS (nth l i) (nth l j) || ltS (nth l i) (nth l j))
theorem pair_rise (l : List ByteArray) : pairB l = riseB l := by
  rw [Bool.eq_iff_iff]
  unfold pairB riseB
  simp only [List.all_eq_true, List.mem_range, Bool.and_eq_true, Bool.or_eq_true, decide_eq_true_eq, Bool.not_eq_true']
  constructor
  · intro h i hi
    refine ⟨(h i hi).1, ?_⟩
    by_cases h0 : i = 0
    · exact .inl h0
    · exact .inr (ltS_iff.2 ((h i hi).2 (i - 1) (by omega)))
  · intro h i hi
    refine ⟨(h i hi).1, fun j hj => ?_⟩
    rw [← ltS_iff]
    have hall : ∀ d j, j + d + 1 < l.length → ltS (nth l j) (nth l (j + d + 1)) = true := by
      intro d
      induction d with
      | zero =>
        intro j hj
        rcases (h (j + 1) hj).2 with h1 | h1
        · omega
        · simpa using h1
      | succ d ih =>
        intro j hj
        refine ltS_trans (ih j (by omega)) ?_
        rcases (h (j + (d + 1) + 1) hj).2 with h1 | h1
        · omega
        · rwa [show j + (d + 1) + 1 - 1 = j + d + 1 by omega] at h1
    have := hall (i - j - 1) j (by omega)
    rwa [show j + (i - j - 1) + 1 = i by omega] at this

end Go.Proofs.Ytpegkalhjnldkaa
