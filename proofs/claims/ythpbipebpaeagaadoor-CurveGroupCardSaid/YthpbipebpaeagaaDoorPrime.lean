/- Primes: Fermat's little theorem, a test by one factor of n - 1, and that 2^255 - 19 is prime. Nothing here names a dump. -/
namespace Go.Proofs.YthpbipebpaeagaaDoor

/-- A prime. -/
def Pr (n : Nat) : Prop := 2 ≤ n ∧ ∀ d, d ∣ n → d = 1 ∨ d = n

theorem Pr.coprime {r i : Nat} (hr : Pr r) (h : i % r ≠ 0) : Nat.gcd r i = 1 := by
  rcases hr.2 _ (Nat.gcd_dvd_left r i) with h1 | h1
  · exact h1
  · exact absurd (Nat.mod_eq_zero_of_dvd (h1 ▸ Nat.gcd_dvd_right r i)) h

/-- Every number above 1 is a prime, or a prime not above its root divides it. -/
theorem prime_or (n : Nat) (h : 2 ≤ n) : Pr n ∨ ∃ r, Pr r ∧ r ∣ n ∧ r * r ≤ n := by
  induction n using Nat.strongRecOn with
  | _ n ih =>
    by_cases hp : ∀ d, d ∣ n → d = 1 ∨ d = n
    · exact .inl ⟨h, hp⟩
    · right
      have ⟨d, hd⟩ := Classical.not_forall.mp hp
      have ⟨hdn, hd⟩ := Classical.not_imp.mp hd
      obtain ⟨e, he⟩ := hdn
      have hd1 : d ≠ 1 := fun h => hd (.inl h)
      have hdn : d ≠ n := fun h => hd (.inr h)
      have hd0 : d ≠ 0 := by rintro rfl; omega
      have he0 : e ≠ 0 := by rintro rfl; omega
      have he1 : e ≠ 1 := by rintro rfl; omega
      have key : ∀ s t : Nat, n = s * t → 2 ≤ s → 2 ≤ t → s ≤ t → ∃ r, Pr r ∧ r ∣ n ∧ r * r ≤ n := by
        intro s t hn hs ht hst
        have hss : s * s ≤ n := hn ▸ Nat.mul_le_mul_left s hst
        have hsn : s < n := by
          have : s * 2 ≤ s * t := Nat.mul_le_mul_left s ht
          omega
        rcases ih s hsn hs with hs' | ⟨r, hr, hrs, hrr⟩
        · exact ⟨s, hs', ⟨t, hn⟩, hss⟩
        · exact ⟨r, hr, Nat.dvd_trans hrs ⟨t, hn⟩, Nat.le_trans hrr (by omega)⟩
      rcases Nat.le_total d e with hde | hde
      · exact key d e he (by omega) (by omega) hde
      · exact key e d (by rw [he, Nat.mul_comm]) (by omega) (by omega) hde

/-- A product. -/
def prd : List Nat → Nat
  | [] => 1
  | x :: l => x * prd l

theorem prd_perm {l m : List Nat} (h : l.Perm m) : prd l = prd m := by
  induction h with
  | nil => rfl
  | cons x _ ih => show x * prd _ = x * prd _; rw [ih]
  | swap x y l => show y * (x * prd l) = x * (y * prd l); exact Nat.mul_left_comm ..
  | trans _ _ h1 h2 => exact h1.trans h2

theorem prd_map (a r : Nat) (l : List Nat) : prd (l.map fun i => a * i % r) % r = a ^ l.length * prd l % r := by
  induction l with
  | nil => rfl
  | cons x l ih =>
    show (a * x % r) * prd (l.map fun i => a * i % r) % r = a ^ (l.length + 1) * (x * prd l) % r
    rw [Nat.mul_mod, ih, Nat.mod_mod, ← Nat.mul_mod, Nat.pow_succ]
    congr 1
    rw [Nat.mul_mul_mul_comm, Nat.mul_comm a (a ^ l.length)] <;> first | rfl | simp only [Nat.mul_assoc, Nat.mul_comm, Nat.mul_left_comm]

theorem prd_coprime (r : Nat) (l : List Nat) (h : ∀ x ∈ l, Nat.gcd r x = 1) : Nat.gcd r (prd l) = 1 := by
  induction l with
  | nil => exact Nat.gcd_one_right r
  | cons x l ih =>
    have h1 : Nat.Coprime r x := h x (by simp)
    have h2 : Nat.Coprime r (prd l) := ih fun y hy => h y (by simp [hy])
    exact Nat.Coprime.mul_right h1 h2

theorem perm_of {l : List Nat} : ∀ {m : List Nat}, l.Nodup → (∀ x ∈ l, x ∈ m) → m.length ≤ l.length → l.Perm m := by
  induction l with
  | nil =>
    intro m _ _ hl
    have : m = [] := List.length_eq_zero_iff.mp (by simpa using hl)
    rw [this]
  | cons x l ih =>
    intro m hn hs hl
    have hx : x ∈ m := hs x (by simp)
    rw [List.nodup_cons] at hn
    have h1 : l.Perm (m.erase x) := by
      refine ih hn.2 (fun y hy => ?_) ?_
      · have : y ≠ x := by rintro rfl; exact hn.1 hy
        exact (List.mem_erase_of_ne this).mpr (hs y (by simp [hy]))
      · rw [List.length_erase_of_mem hx]
        simp only [List.length_cons] at hl
        omega
    exact (List.Perm.cons x h1).trans (List.perm_cons_erase hx).symm

/-- Off both sides of a congruence, what is coprime to the modulus. -/
theorem mod_cancel {r a b c : Nat} (hc : Nat.gcd r c = 1) (h : a * c % r = b * c % r) : a % r = b % r := by
  have key : ∀ a b : Nat, a ≤ b → a * c % r = b * c % r → a % r = b % r := by
    intro a b hab h
    have h1 : (b * c - a * c) % r = 0 := Nat.sub_mod_eq_zero_of_mod_eq h.symm
    rw [← Nat.sub_mul] at h1
    have h2 : r ∣ (b - a) := Nat.Coprime.dvd_of_dvd_mul_right hc (Nat.dvd_of_mod_eq_zero h1)
    obtain ⟨k, hk⟩ := h2
    have : b = a + r * k := by omega
    rw [this, Nat.add_mul_mod_self_left]
  rcases Nat.le_total a b with hab | hab
  · exact key a b hab h
  · exact (key b a hab h.symm).symm

/-- Fermat's little theorem. -/
theorem Pr.fermat {r a : Nat} (hr : Pr r) (ha : a % r ≠ 0) : a ^ (r - 1) % r = 1 := by
  have h2 := hr.1
  have hca : Nat.gcd r a = 1 := hr.coprime ha
  let R := List.range' 1 (r - 1)
  have hR : ∀ x, x ∈ R ↔ 1 ≤ x ∧ x < r := by
    intro x
    simp only [R, List.mem_range'_1]
    omega
  have hlen : R.length = r - 1 := by simp [R]
  have hcop : ∀ x ∈ R, Nat.gcd r x = 1 := by
    intro x hx
    refine hr.coprime ?_
    have ⟨h1, h3⟩ := (hR x).mp hx
    rw [Nat.mod_eq_of_lt h3]
    omega
  have hperm : (R.map fun i => a * i % r).Perm R := by
    refine perm_of ?_ ?_ (by simp)
    · refine List.pairwise_map.mpr ?_
      have hn : R.Nodup := List.nodup_range'
      refine List.Pairwise.imp_of_mem ?_ hn
      intro x y hx hy hxy he
      have h1 : x % r = y % r := mod_cancel hca (by rwa [Nat.mul_comm x, Nat.mul_comm y])
      rw [Nat.mod_eq_of_lt ((hR x).mp hx).2, Nat.mod_eq_of_lt ((hR y).mp hy).2] at h1
      exact hxy h1
    · intro y hy
      obtain ⟨x, hx, rfl⟩ := List.mem_map.mp hy
      refine (hR _).mpr ⟨?_, Nat.mod_lt _ (by omega)⟩
      by_cases h0 : a * x % r = 0
      · have h3 : Nat.gcd r (a * x) = 1 := Nat.Coprime.mul_right hca (hcop x hx)
        have h4 : Nat.gcd r (a * x) = r := Nat.gcd_eq_left (Nat.dvd_of_mod_eq_zero h0)
        omega
      · omega
  have h3 := prd_map a r R
  rw [prd_perm hperm, hlen] at h3
  have h4 : 1 * prd R % r = a ^ (r - 1) * prd R % r := by rw [Nat.one_mul]; exact h3
  have h5 := mod_cancel (prd_coprime r R hcop) h4
  rw [← h5, Nat.mod_eq_of_lt (by omega)]

/-- The exponents at which a power is 1 are closed under the greatest common divisor. -/
theorem pow_gcd {r a : Nat} (hr : 2 ≤ r) (m n : Nat) (hm : a ^ m % r = 1) (hn : a ^ n % r = 1) : a ^ Nat.gcd m n % r = 1 := by
  induction m, n using Nat.gcd.induction with
  | H0 n => simpa using hn
  | H1 m n hpos ih =>
    rw [Nat.gcd_rec]
    refine ih ?_ hm
    have h1 : a ^ n = (a ^ m) ^ (n / m) * a ^ (n % m) := by
      rw [← Nat.pow_mul, ← Nat.pow_add, Nat.div_add_mod]
    have h2 : (a ^ m) ^ (n / m) % r = 1 := by
      rw [Nat.pow_mod, hm, Nat.one_pow]
      exact Nat.mod_eq_of_lt (by omega)
    rw [h1, Nat.mul_mod, h2, Nat.one_mul, Nat.mod_mod] at hn
    exact hn

/-- A prime by one great factor of the number below it. -/
theorem prime_by {n q m a K : Nat} (hq : Pr q) (hn : n = q * m + 1) (h2 : 2 ≤ n)
    (h1 : a ^ (n - 1) % n = 1) (hg : Nat.gcd (a ^ m % n + n - 1) n = 1)
    (hK : ∀ k, k < K → 1 ≤ k → n % (k * q + 1) ≠ 0) (hb : n < (K * q + 1) * (K * q + 1)) : Pr n := by
  rcases prime_or n h2 with h | ⟨r, hr, hrn, hrr⟩
  · exact h
  exfalso
  have hr2 := hr.1
  have hmod : ∀ x : Nat, x % n % r = x % r := fun x => Nat.mod_mod_of_dvd x hrn
  have h1r : a ^ (n - 1) % r = 1 := by
    rw [← hmod, h1]
    exact Nat.mod_eq_of_lt (by omega)
  have hm1 : a ^ m % r ≠ 1 := by
    intro h
    have e1 : r ∣ (a ^ m % n + n - 1) := by
      obtain ⟨k, hk⟩ := hrn
      have e2 : a ^ m % n % r = 1 := by rw [hmod, h]
      have e3 : a ^ m % n = 1 + r * (a ^ m % n / r) := by
        have := Nat.mod_add_div (a ^ m % n) r
        omega
      refine ⟨a ^ m % n / r + k, ?_⟩
      rw [Nat.mul_add, ← hk]
      omega
    have e4 := Nat.dvd_gcd e1 hrn
    rw [hg] at e4
    have := Nat.le_of_dvd (by decide) e4
    omega
  have ha0 : a % r ≠ 0 := by
    intro h
    have : a ^ (n - 1) % r = 0 := by
      have hne : n - 1 = (n - 2) + 1 := by omega
      rw [hne, Nat.pow_succ, Nat.mul_mod, h, Nat.mul_zero, Nat.zero_mod]
    omega
  have hf := hr.fermat ha0
  have hqr : q ∣ r - 1 := by
    by_cases h : (r - 1) % q = 0
    · exact Nat.dvd_of_mod_eq_zero h
    · exfalso
      have hc : Nat.gcd q (r - 1) = 1 := hq.coprime h
      have h3 := pow_gcd hr2 (r - 1) (n - 1) hf h1r
      have h4 : Nat.gcd (r - 1) (n - 1) ∣ m := by
        have e1 : Nat.gcd (r - 1) (n - 1) ∣ q * m := by
          have := Nat.gcd_dvd_right (r - 1) (n - 1)
          have e2 : n - 1 = q * m := by omega
          rwa [e2] at this ⊢
        have e3 : Nat.Coprime (Nat.gcd (r - 1) (n - 1)) q := by
          have e4 : Nat.gcd (Nat.gcd (r - 1) (n - 1)) q ∣ Nat.gcd q (r - 1) :=
            Nat.dvd_gcd (Nat.gcd_dvd_right ..) (Nat.dvd_trans (Nat.gcd_dvd_left ..) (Nat.gcd_dvd_left ..))
          rw [hc] at e4
          exact Nat.dvd_one.mp e4
        exact Nat.Coprime.dvd_of_dvd_mul_left e3 e1
      obtain ⟨c, hc⟩ := h4
      refine hm1 ?_
      rw [hc, Nat.pow_mul, Nat.pow_mod, h3, Nat.one_pow]
      exact Nat.mod_eq_of_lt (by omega)
  obtain ⟨k, hk⟩ := hqr
  have hrk : r = k * q + 1 := by
    rw [Nat.mul_comm k q, ← hk]
    omega
  have hk1 : 1 ≤ k := by
    rcases Nat.eq_zero_or_pos k with h | h
    · subst h; omega
    · exact h
  have hkK : k < K := by
    rcases Nat.lt_or_ge k K with h | h
    · exact h
    · exfalso
      have e1 : K * q + 1 ≤ r := by
        rw [hrk]
        exact Nat.add_le_add_right (Nat.mul_le_mul_right q h) 1
      have e2 := Nat.mul_le_mul e1 e1
      omega
  refine hK k hkK hk1 ?_
  rw [← hrk]
  exact Nat.mod_eq_zero_of_dvd hrn

/-- A power's rest, as the kernel can reckon it. -/
def pm (n : Nat) : Nat → Nat → Nat → Nat
  | 0, _, _ => 1 % n
  | f + 1, a, e => (if e % 2 = 1 then a else 1) * pm n f (a * a % n) (e / 2) % n

theorem pm_eq (n : Nat) : ∀ f a e, e < 2 ^ f → pm n f a e = a ^ e % n := by
  intro f
  induction f with
  | zero =>
    intro a e h
    have : e = 0 := by simpa using h
    subst this
    rfl
  | succ f ih =>
    intro a e h
    show (if e % 2 = 1 then a else 1) * pm n f (a * a % n) (e / 2) % n = _
    rw [ih _ _ (by rw [Nat.pow_succ] at h; omega)]
    have h1 : (a * a % n) ^ (e / 2) % n = a ^ (2 * (e / 2)) % n := by
      rw [← Nat.pow_mod, Nat.pow_mul, Nat.pow_two]
    have h2 : e % 2 + 2 * (e / 2) = e := Nat.mod_add_div e 2
    rw [h1]
    by_cases h3 : e % 2 = 1
    · rw [if_pos h3, Nat.mul_mod, Nat.mod_mod, ← Nat.mul_mod, ← Nat.pow_succ']
      congr 2
      omega
    · rw [if_neg h3, Nat.one_mul, Nat.mod_mod]
      congr 2
      omega

/-- No number from 2 on, so many of them, divides. -/
def noDiv (n : Nat) : Nat → Bool
  | 0 => true
  | k + 1 => (n % (k + 2) != 0) && noDiv n k

theorem noDiv_spec (n : Nat) : ∀ K, noDiv n K = true → ∀ k, k < K → n % (k + 2) ≠ 0 := by
  intro K
  induction K with
  | zero => intro _ k hk; omega
  | succ K ih =>
    intro h k hk
    have h : ((n % (K + 2) != 0) && noDiv n K) = true := h
    rw [Bool.and_eq_true] at h
    rcases Nat.lt_or_ge k K with h1 | h1
    · exact ih h.2 k h1
    · have : k = K := by omega
      subst this
      simpa using h.1

theorem prime_small {n : Nat} (K : Nat) (h2 : 2 ≤ n) (h : noDiv n K = true) (hb : n < (K + 2) * (K + 2)) : Pr n := by
  rcases prime_or n h2 with h' | ⟨r, hr, hrn, hrr⟩
  · exact h'
  exfalso
  have hr2 := hr.1
  have hk : r - 2 < K := by
    rcases Nat.lt_or_ge (r - 2) K with h1 | h1
    · exact h1
    · exfalso
      have e1 : K + 2 ≤ r := by omega
      have := Nat.mul_le_mul e1 e1
      omega
  have := noDiv_spec n K h (r - 2) hk
  rw [Nat.sub_add_cancel hr2] at this
  exact this (Nat.mod_eq_zero_of_dvd hrn)

/-- The same, told by what the kernel can reckon. -/
def tst (n q m a K f : Nat) : Bool :=
  n == q * m + 1 && Nat.ble 2 n && pm n f a (n - 1) == 1 && Nat.gcd (pm n f a m + n - 1) n == 1
    && Nat.ble (n + 1) ((K * q + 1) * (K * q + 1)) && Nat.ble (n + 1) (2 ^ f)

/-- No k times q and 1 more divides, for the k from 1 on. -/
def nok (n q : Nat) : Nat → Bool
  | 0 => true
  | k + 1 => (k == 0 || n % (k * q + 1) != 0) && nok n q k

theorem nok_spec (n q : Nat) : ∀ K, nok n q K = true → ∀ k, k < K → 1 ≤ k → n % (k * q + 1) ≠ 0 := by
  intro K
  induction K with
  | zero => intro _ k hk; omega
  | succ K ih =>
    intro h k hk h1
    have h : ((K == 0 || n % (K * q + 1) != 0) && nok n q K) = true := h
    rw [Bool.and_eq_true] at h
    rcases Nat.lt_or_ge k K with h2 | h2
    · exact ih h.2 k h2 h1
    · have : k = K := by omega
      subst this
      have h3 := h.1
      rw [Bool.or_eq_true] at h3
      rcases h3 with h3 | h3
      · have : k = 0 := by simpa using h3
        omega
      · simpa using h3

theorem prime_tst {n q : Nat} (m a K f : Nat) (hq : Pr q) (ht : tst n q m a K f = true) (hk : nok n q K = true) : Pr n := by
  unfold tst at ht
  simp only [Bool.and_eq_true, beq_iff_eq, Nat.ble_eq] at ht
  obtain ⟨⟨⟨⟨⟨hn, h2⟩, h1⟩, hg⟩, hb⟩, hf⟩ := ht
  have hm : m < 2 ^ f := by
    have e1 : 1 * m ≤ q * m := Nat.mul_le_mul_right m (by have := hq.1; omega)
    omega
  rw [pm_eq n f a _ (by omega)] at h1
  rw [pm_eq n f a m hm] at hg
  exact prime_by hq hn h2 h1 hg (nok_spec n q K hk) hb

theorem pr4 : Pr 8574133 := prime_small 2930 (by decide) (by decide +kernel) (by decide)
theorem pr3 : Pr 1919519569386763 := prime_tst 223873314 2 6 51 pr4 (by decide +kernel) (by decide +kernel)
theorem pr2 : Pr 75445702479781427272750846543864801 := prime_tst 39304471641247389600 2 144 116 pr3 (by decide +kernel) (by decide +kernel)
theorem pr1 : Pr 74058212732561358302231226437062788676166966415465897661863160754340907 := prime_tst 981609426360740691344999861639072106 2 4 236 pr2 (by decide +kernel) (by decide +kernel)
/-- 2^255 - 19 is prime. -/
theorem prP : Pr 57896044618658097711785492504343953926634992332820282019728792003956564819949 := prime_tst 781764 2 1 255 pr1 (by decide +kernel) (by decide +kernel)

end Go.Proofs.YthpbipebpaeagaaDoor
