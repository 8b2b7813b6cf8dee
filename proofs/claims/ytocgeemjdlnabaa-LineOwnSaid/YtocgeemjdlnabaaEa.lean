/- Names as numbers: the highest byte first. -/
import Derived.Test.YtocgeemjdlnabaaBase
import Derived.Lib.Bytealg
import Derived.Lib.Small
namespace Go.Proofs.Ytocgeemjdlnabaa
set_option linter.unusedSimpArgs false
set_option linter.unusedVariables false

/-- The number that bytes tell, the highest one first. -/
def num : List UInt8 → Nat
  | [] => 0
  | b :: l => b.toNat * 256 ^ l.length + num l
theorem num_lt : ∀ (l : List UInt8), num l < 256 ^ l.length
  | [] => by simp [num]
  | b :: l => by
    have h := num_lt l
    have hb : b.toNat ≤ 255 := by have := b.toNat_lt; omega
    have h1 : b.toNat * 256 ^ l.length ≤ 255 * 256 ^ l.length := Nat.mul_le_mul_right _ hb
    rw [num, List.length_cons, Nat.pow_succ]
    omega
theorem num_cons_lt {a b : UInt8} {l m : List UInt8} (hl : l.length = m.length) (h : a < b) : num (a :: l) < num (b :: m) := by
  have h1 := num_lt l
  have h2 : a.toNat + 1 ≤ b.toNat := h
  have h3 : (a.toNat + 1) * 256 ^ m.length ≤ b.toNat * 256 ^ m.length := Nat.mul_le_mul_right _ h2
  rw [Nat.add_mul, Nat.one_mul] at h3
  rw [num, num, hl]
  rw [hl] at h1
  omega
theorem num_inj : ∀ {l m : List UInt8}, l.length = m.length → num l = num m → l = m
  | [], [], _, _ => rfl
  | [], _ :: _, h, _ => by simp at h
  | _ :: _, [], h, _ => by simp at h
  | a :: l, b :: m, h, hn => by
    have hl : l.length = m.length := by simpa using h
    by_cases hab : a = b
    · subst hab
      rw [num, num, hl] at hn
      rw [num_inj hl (by omega)]
    · rcases UInt8.lt_or_lt_of_ne hab with h1 | h1
      · exact absurd hn (Nat.ne_of_lt (num_cons_lt hl h1))
      · exact absurd hn (Nat.ne_of_gt (num_cons_lt hl.symm h1))
/-- What bytes.Compare tells is how the numbers stand. -/
theorem cmp_num : ∀ {l m : List UInt8}, l.length = m.length → Lib.compareBytes l m = Lib.compareInt (num l : Int) (num m : Int)
  | [], [], _ => by simp [Lib.compareBytes, Lib.compareInt, num]
  | [], _ :: _, h => by simp at h
  | _ :: _, [], h => by simp at h
  | a :: l, b :: m, h => by
    have hl : l.length = m.length := by simpa using h
    unfold Lib.compareBytes
    by_cases h1 : a < b
    · have := num_cons_lt hl h1
      rw [if_pos h1]; unfold Lib.compareInt; rw [if_pos (by omega)]
    · by_cases h2 : b < a
      · have := num_cons_lt hl.symm h2
        rw [if_neg h1, if_pos h2]; unfold Lib.compareInt; rw [if_neg (by omega), if_pos (by omega)]
      · have hab : a = b := by
          have h3 := UInt8.not_lt.1 h1
          have h4 := UInt8.not_lt.1 h2
          exact UInt8.le_antisymm h4 h3
        subst hab
        rw [if_neg h1, if_neg h2, cmp_num hl]
        unfold Lib.compareInt
        rw [num, num, hl]
        congr 1
        · simp only [eq_iff_iff]; omega
        · congr 1
          simp only [eq_iff_iff]; omega
/-- Where bytes are first unlike, they tell which number is less. -/
theorem num_first {l m : List UInt8} (hl : l.length = m.length) {i : Nat} (hi : i < l.length) (he : l.take i = m.take i) (hne : l.getD i 0 ≠ m.getD i 0) : decide (num l < num m) = decide (l.getD i 0 < m.getD i 0) := by
  induction i generalizing l m with
  | zero =>
    cases l with
    | nil => simp at hi
    | cons a l =>
      cases m with
      | nil => simp at hl
      | cons b m =>
        have hl' : l.length = m.length := by simpa using hl
        simp only [List.getD_cons_zero] at hne ⊢
        rcases UInt8.lt_or_lt_of_ne hne with h1 | h1
        · have := num_cons_lt hl' h1
          rw [decide_eq_true this, decide_eq_true h1]
        · have := num_cons_lt hl'.symm h1
          rw [decide_eq_false (by omega), decide_eq_false (by intro h; exact absurd (UInt8.lt_trans h h1) (UInt8.lt_irrefl _))]
  | succ i ih =>
    cases l with
    | nil => simp at hi
    | cons a l =>
      cases m with
      | nil => simp at hl
      | cons b m =>
        have hl' : l.length = m.length := by simpa using hl
        simp only [List.take_succ_cons, List.cons.injEq] at he
        obtain ⟨rfl, he⟩ := he
        simp only [List.getD_cons_succ] at hne ⊢
        rw [← ih hl' (by simpa using hi) he hne, num, num, hl']
        congr 1
        simp only [eq_iff_iff]; omega

/-- A name. -/
abbrev Hs := { l : List UInt8 // l.length = 32 }
instance : Inhabited Hs := ⟨⟨List.replicate 32 0, by simp⟩⟩
def Hs.n (h : Hs) : Nat := num h.1
theorem Hs.n_inj {a b : Hs} (h : a.n = b.n) : a = b := Subtype.ext (num_inj (a.2.trans b.2.symm) h)
/-- Its cells. -/
def Hs.c (h : Hs) : List Value := Bs h.1
theorem Hs.c_len (h : Hs) : h.c.length = 32 := by unfold Hs.c; rw [Bs_length, h.2]
theorem Hs.c_one (h : Hs) : ∀ v ∈ h.c, v.oneCell' = true := fun v hv => by
  exact Bs_one h.1 v hv
theorem Bs_inj : ∀ {l m : List UInt8}, Bs l = Bs m → l = m
  | [], [], _ => rfl
  | [], _ :: _, h => by simp [Bs] at h
  | _ :: _, [], h => by simp [Bs] at h
  | a :: l, b :: m, h => by
    simp only [Bs, List.map_cons, List.cons.injEq, Value.int.injEq, true_and] at h
    have h1 : a.toNat = b.toNat := by omega
    rw [Bs_inj (l := l) (m := m) h.2, UInt8.toNat_inj.1 h1]
theorem Hs.c_inj {a b : Hs} (h : a.c = b.c) : a = b := Subtype.ext (Bs_inj h)
/-- What entry.compare tells. -/
def Hs.cf (a b : Hs) : Int := Lib.compareInt (a.n : Int) (b.n : Int)

end Go.Proofs.Ytocgeemjdlnabaa
