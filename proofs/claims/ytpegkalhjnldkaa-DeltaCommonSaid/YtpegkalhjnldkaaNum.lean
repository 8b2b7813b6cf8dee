/-
  Numbers as digits of seven bits: the bytes of a number, and the number that bytes begin with. Plain mathematics.
-/
namespace Go.Proofs.Ytpegkalhjnldkaa

/-- A number's bytes. -/
def enc (n : Nat) : List UInt8 :=
  if h : n < 128 then [UInt8.ofNat n] else UInt8.ofNat (n % 128 + 128) :: enc (n / 128)
termination_by n
decreasing_by omega

/-- The number that bytes begin with, of whatever size, and how many bytes it has. -/
def rdec : List UInt8 → Option (Nat × Nat)
  | [] => none
  | c :: r => if c.toNat < 128 then some (c.toNat, 1) else
    match rdec r with
    | none => none
    | some (n, s) => if n = 0 then none else some (c.toNat % 128 + 128 * n, s + 1)

/-- The number of 64 bits that bytes begin with. -/
def dec (l : List UInt8) : Option (Nat × Nat) :=
  match rdec l with
  | none => none
  | some (n, s) => if n < 18446744073709551616 then some (n, s) else none

/-- The value of digits, the lowest one first. -/
def dig : List UInt8 → Nat
  | [] => 0
  | c :: r => c.toNat % 128 + 128 * dig r

theorem toNat_low {n : Nat} (h : n < 256) : (UInt8.ofNat n).toNat = n := by simp [Nat.mod_eq_of_lt h]

theorem enc_small {n : Nat} (h : n < 128) : enc n = [UInt8.ofNat n] := by rw [enc, dif_pos h]
theorem enc_big {n : Nat} (h : ¬ n < 128) : enc n = UInt8.ofNat (n % 128 + 128) :: enc (n / 128) := by rw [enc, dif_neg h]

theorem rdec_enc (n : Nat) : ∀ r : List UInt8, rdec (enc n ++ r) = some (n, (enc n).length) := by
  induction n using Nat.strongRecOn with
  | ind n ih =>
    intro r
    by_cases h : n < 128
    · rw [enc_small h]
      have h1 := toNat_low (n := n) (by omega)
      simp only [List.cons_append, List.nil_append, rdec, h1, if_pos h, List.length_cons, List.length_nil]
    · rw [enc_big h]
      have h1 := toNat_low (n := n % 128 + 128) (by omega)
      have h2 := ih (n / 128) (by omega) r
      have h3 : ¬ n % 128 + 128 < 128 := by omega
      have h4 : ¬ n / 128 = 0 := by omega
      simp only [List.cons_append, rdec, h1, if_neg h3, h2, if_neg h4, List.length_cons]
      congr 2
      omega

theorem enc_rdec : ∀ (l : List UInt8) (n s : Nat), rdec l = some (n, s) → s ≤ l.length ∧ 0 < s ∧ l.take s = enc n := by
  intro l
  induction l with
  | nil => intro n s h; simp [rdec] at h
  | cons c r ih =>
    intro n s h
    rw [rdec] at h
    by_cases hc : c.toNat < 128
    · rw [if_pos hc] at h
      injection h with h; injection h with h1 h2
      subst h1 h2
      refine ⟨by simp, by omega, ?_⟩
      rw [enc_small hc]
      simp
    · rw [if_neg hc] at h
      cases hr : rdec r with
      | none => rw [hr] at h; cases h
      | some p =>
        obtain ⟨m, t⟩ := p
        rw [hr] at h
        have hcl : c.toNat < 256 := c.toNat_lt
        by_cases hm : m = 0
        · simp [hm] at h
        · simp only [if_neg hm] at h
          injection h with h; injection h with h1 h2
          subst h1 h2
          obtain ⟨g1, g2, g3⟩ := ih m t hr
          refine ⟨by simp; omega, by omega, ?_⟩
          rw [enc_big (by omega), List.take_succ_cons, g3]
          have e1 : (c.toNat % 128 + 128 * m) % 128 + 128 = c.toNat := by omega
          have e2 : (c.toNat % 128 + 128 * m) / 128 = m := by omega
          rw [e1, e2]
          simp

theorem enc_length_le {n : Nat} (h : n < 18446744073709551616) : (enc n).length ≤ 10 := by
  have step : ∀ (k n : Nat), n < 128 ^ (k + 1) → (enc n).length ≤ k + 1 := by
    intro k
    induction k with
    | zero => intro n h; rw [enc_small (by simpa using h)]; simp
    | succ k ih =>
      intro n h
      by_cases hn : n < 128
      · rw [enc_small hn]; simp
      · rw [enc_big hn, List.length_cons]
        have := ih (n / 128) (by rw [Nat.div_lt_iff_lt_mul (by omega)]; rw [Nat.pow_succ] at h; exact h)
        omega
  exact step 9 n (by omega)
theorem enc_length_pos (n : Nat) : 0 < (enc n).length := by
  by_cases h : n < 128
  · rw [enc_small h]; simp
  · rw [enc_big h]; simp

theorem dec_enc {n : Nat} (h : n < 18446744073709551616) (r : List UInt8) : dec (enc n ++ r) = some (n, (enc n).length) := by
  unfold dec; rw [rdec_enc]; simp [h]

theorem enc_dec {l : List UInt8} {n s : Nat} (h : dec l = some (n, s)) : n < 18446744073709551616 ∧ s ≤ l.length ∧ 0 < s ∧ l.take s = enc n := by
  unfold dec at h
  cases hr : rdec l with
  | none => rw [hr] at h; cases h
  | some p =>
    obtain ⟨m, t⟩ := p
    rw [hr] at h
    by_cases hm : m < 18446744073709551616
    · simp only [if_pos hm] at h
      injection h with h; injection h with h1 h2
      subst h1 h2
      exact ⟨hm, enc_rdec l _ _ hr⟩
    · simp [hm] at h

theorem dig_snoc (l : List UInt8) (c : UInt8) : dig (l ++ [c]) = dig l + c.toNat % 128 * 128 ^ l.length := by
  induction l with
  | nil => simp [dig]
  | cons d r ih =>
    simp only [List.cons_append, dig, ih, List.length_cons, Nat.pow_succ, Nat.mul_add]
    have : 128 * (c.toNat % 128 * 128 ^ r.length) = c.toNat % 128 * (128 ^ r.length * 128) := by
      rw [Nat.mul_comm 128, Nat.mul_assoc]
    omega

theorem dig_lt (l : List UInt8) : dig l < 128 ^ l.length := by
  induction l with
  | nil => simp [dig]
  | cons d r ih => simp only [dig, List.length_cons, Nat.pow_succ]; omega

/-- What bytes come to behind a row of digits that go on. -/
theorem rdec_front : ∀ (p r : List UInt8), (∀ c ∈ p, ¬ c.toNat < 128) →
    rdec (p ++ r) = match rdec r with
      | none => none
      | some (n, s) => if n = 0 ∧ p ≠ [] then none else some (dig p + 128 ^ p.length * n, s + p.length) := by
  intro p
  induction p with
  | nil => intro r _; cases h : rdec r with
    | none => simp [h]
    | some q => simp [h, dig]
  | cons c p ih =>
    intro r hp
    have hc := hp c (by simp)
    have ih := ih r (fun d hd => hp d (by simp [hd]))
    rw [List.cons_append, rdec, if_neg hc, ih]
    cases h : rdec r with
    | none => rfl
    | some q =>
      obtain ⟨n, s⟩ := q
      by_cases hn : n = 0
      · subst hn
        by_cases hpn : p = []
        · subst hpn; simp [dig]
        · simp [hpn]
      · have h1 : ¬ dig p + 128 ^ p.length * n = 0 := by
          have : 0 < 128 ^ p.length * n := Nat.mul_pos (Nat.pow_pos (by omega)) (by omega)
          omega
        simp only [hn, false_and, if_false, if_neg h1, dig, List.length_cons, Nat.pow_succ]
        congr 2
        · rw [Nat.mul_add, Nat.mul_comm (128 ^ p.length) 128, Nat.mul_assoc]; omega

section
variable {k : List UInt8} {j : Nat}
theorem cut_at {x : UInt8} (hx : k[j]? = some x) : k = k.take j ++ x :: k.drop (j + 1) := by
  obtain ⟨hj, e⟩ := List.getElem?_eq_some_iff.1 hx
  rw [← e, List.getElem_cons_drop, List.take_append_drop]
theorem len_take {x : UInt8} (hx : k[j]? = some x) : (k.take j).length = j := by
  obtain ⟨hj, _⟩ := List.getElem?_eq_some_iff.1 hx
  rw [List.length_take]; omega
theorem dec_end (h : ∀ d ∈ k, ¬ d.toNat < 128) : dec k = none := by
  have := rdec_front k [] h
  rw [List.append_nil] at this
  unfold dec; rw [this]; simp [rdec]
theorem dec_stop {x : UInt8} (h : ∀ d ∈ k.take j, ¬ d.toNat < 128) (hx : k[j]? = some x) (hj : j = 9) (h1 : 1 < x.toNat) : dec k = none := by
  have hl := len_take hx
  have hf := rdec_front (k.take j) (x :: k.drop (j + 1)) h
  rw [← cut_at hx, hl, hj] at hf
  have hb : ∀ n, 2 ≤ n → ¬ dig (k.take 9) + 128 ^ 9 * n < 18446744073709551616 := by
    intro n hn
    have : 128 ^ 9 * 2 ≤ 128 ^ 9 * n := Nat.mul_le_mul_left _ hn
    omega
  unfold dec
  rw [hf]
  by_cases hc : x.toNat < 128
  · have h0 : ¬ x.toNat = 0 := by omega
    simp only [rdec, if_pos hc, h0, false_and, if_false, if_neg (hb _ h1)]
  · simp only [rdec, if_neg hc]
    cases hr : rdec (k.drop (9 + 1)) with
    | none => rfl
    | some q =>
      obtain ⟨n, s⟩ := q
      by_cases hn : n = 0
      · simp [hn]
      · have h2 : ¬ x.toNat % 128 + 128 * n = 0 := by omega
        simp only [if_neg hn, h2, false_and, if_false, if_neg (hb (x.toNat % 128 + 128 * n) (by omega))]
theorem dec_zero {x : UInt8} (h : ∀ d ∈ k.take j, ¬ d.toNat < 128) (hx : k[j]? = some x) (hj : 0 < j) (h1 : x.toNat = 0) : dec k = none := by
  have hl := len_take hx
  have hf := rdec_front (k.take j) (x :: k.drop (j + 1)) h
  have hp : k.take j ≠ [] := by intro e; rw [e] at hl; simp at hl; omega
  rw [← cut_at hx] at hf
  unfold dec
  rw [hf]
  simp [rdec, h1, hp]
theorem dec_val {x : UInt8} (h : ∀ d ∈ k.take j, ¬ d.toNat < 128) (hx : k[j]? = some x) (hj : j ≤ 9) (h9 : j = 9 → x.toNat ≤ 1) (hc : x.toNat < 128) (h0 : x.toNat = 0 → j = 0) :
    dec k = some (dig (k.take j) + x.toNat % 128 * 128 ^ j, j + 1) := by
  have hl := len_take hx
  have hf := rdec_front (k.take j) (x :: k.drop (j + 1)) h
  have hd := dig_lt (k.take j)
  rw [← cut_at hx] at hf
  rw [hl] at hf hd
  have hm : x.toNat % 128 = x.toNat := Nat.mod_eq_of_lt hc
  have hn : ¬ (x.toNat = 0 ∧ k.take j ≠ []) := by
    rintro ⟨e, hp⟩
    have := h0 e
    subst this
    simp at hp
  have hv : dig (k.take j) + 128 ^ j * x.toNat < 18446744073709551616 := by
    have h1 : dig (k.take j) + 128 ^ j * x.toNat < 128 ^ j * (x.toNat + 1) := by rw [Nat.mul_add]; omega
    by_cases hj9 : j = 9
    · have := h9 hj9
      have h2 : 128 ^ j * (x.toNat + 1) ≤ 128 ^ j * 2 := Nat.mul_le_mul_left _ (by omega)
      rw [hj9] at h1 h2 ⊢
      omega
    · have h2 : 128 ^ j * (x.toNat + 1) ≤ 128 ^ 8 * 128 := Nat.mul_le_mul (Nat.pow_le_pow_right (by omega) (by omega)) (by omega)
      omega
  unfold dec
  rw [hf]
  simp only [rdec, if_pos hc, if_neg hn, if_pos hv]
  rw [hm, Nat.mul_comm (128 ^ j), Nat.add_comm 1 j]
theorem take_all_succ {x : UInt8} (h : ∀ d ∈ k.take j, ¬ d.toNat < 128) (hx : k[j]? = some x) (hc : ¬ x.toNat < 128) : ∀ d ∈ k.take (j + 1), ¬ d.toNat < 128 := by
  intro d hd
  rw [List.take_add_one, hx] at hd
  simp at hd
  rcases hd with hd | hd
  · exact h d hd
  · rw [hd]; exact hc
theorem dig_succ {x : UInt8} (hx : k[j]? = some x) : dig (k.take (j + 1)) = dig (k.take j) + x.toNat % 128 * 128 ^ j := by
  have hl := len_take hx
  rw [List.take_add_one, hx]
  show dig (k.take j ++ [x]) = _
  rw [dig_snoc, hl]
end

end Go.Proofs.Ytpegkalhjnldkaa
