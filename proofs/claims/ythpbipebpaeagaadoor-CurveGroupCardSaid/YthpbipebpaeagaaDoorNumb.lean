/- Numbers of eight words of 64 bits: plain arithmetic. Nothing here names a dump. -/
namespace Go.Proofs.YthpbipebpaeagaaDoor

/-- 2^64, so many times. -/
def M64 (k : Nat) : Nat := 2 ^ (64 * k)
theorem M64_add (j k : Nat) : M64 (j + k) = M64 j * M64 k := by
  unfold M64
  rw [Nat.mul_add, Nat.pow_add]
theorem M64_pos (k : Nat) : 0 < M64 k := Nat.two_pow_pos _
theorem M64_succ (k : Nat) : M64 (k + 1) = M64 k * 18446744073709551616 := by
  show 2 ^ (64 * (k + 1)) = 2 ^ (64 * k) * 18446744073709551616
  rw [Nat.mul_add, Nat.pow_add]
/-- A word of a number. -/
def wd (N k : Nat) : Nat := N / M64 k % 18446744073709551616
theorem wd_lt (N k : Nat) : wd N k < 18446744073709551616 := Nat.mod_lt _ (by decide)
theorem mod_succ (N k : Nat) : N % M64 (k + 1) = N % M64 k + M64 k * wd N k := by
  rw [M64_succ, Nat.mod_mul]
  rfl
theorem wd_of_lt {N k : Nat} (h : N < M64 k) : wd N k = 0 := by
  unfold wd
  rw [Nat.div_eq_of_lt h]
theorem M64_mono {j k : Nat} (h : j ≤ k) : M64 j ≤ M64 k := Nat.pow_le_pow_right (by decide) (by omega)
theorem wd_of_lt' {N j k : Nat} (h : N < M64 j) (hj : j ≤ k) : wd N k = 0 := wd_of_lt (Nat.lt_of_lt_of_le h (M64_mono hj))

/-- One word of a number is put in another's place. -/
theorem wd_add_high (N x j k : Nat) (h : j < k) : wd (N + x * M64 k) j = wd N j := by
  unfold wd
  have e : M64 k = M64 j * (18446744073709551616 * M64 (k - j - 1)) := by
    rw [← Nat.mul_assoc, ← M64_succ]
    show 2 ^ (64 * k) = 2 ^ (64 * (j + 1)) * 2 ^ (64 * (k - j - 1))
    rw [← Nat.pow_add]
    congr 1
    omega
  rw [e, show N + x * (M64 j * (18446744073709551616 * M64 (k - j - 1))) = N + M64 j * (18446744073709551616 * (x * M64 (k - j - 1))) by rw [Nat.mul_left_comm x, Nat.mul_left_comm x], Nat.add_mul_div_left _ _ (M64_pos j), Nat.add_mul_mod_self_left]
theorem div_add_low {N x k j : Nat} (hN : N < M64 k) (hj : k ≤ j) : (N + x * M64 k) / M64 j = x * M64 k / M64 j := by
  have e : M64 j = M64 k * M64 (j - k) := by
    show 2 ^ (64 * j) = 2 ^ (64 * k) * 2 ^ (64 * (j - k))
    rw [← Nat.pow_add]
    congr 1
    omega
  rw [e, ← Nat.div_div_eq_div_mul, ← Nat.div_div_eq_div_mul, Nat.add_mul_div_right _ _ (M64_pos k), Nat.div_eq_of_lt hN, Nat.zero_add, Nat.mul_div_cancel _ (M64_pos k)]
theorem wd_top {N x k : Nat} (hN : N < M64 k) (hx : x < 18446744073709551616) : wd (N + x * M64 k) k = x := by
  unfold wd
  rw [Nat.add_mul_div_right _ _ (M64_pos k), Nat.div_eq_of_lt hN, Nat.zero_add, Nat.mod_eq_of_lt hx]
theorem top_lt {N x k : Nat} (hN : N < M64 k) (hx : x < 18446744073709551616) : N + x * M64 k < M64 (k + 1) := by
  rw [M64_succ, Nat.mul_comm]
  have h : (x + 1) * M64 k ≤ 18446744073709551616 * M64 k := Nat.mul_le_mul_right _ hx
  rw [Nat.mul_comm (M64 k)]
  rw [Nat.add_mul] at h
  omega

/-- The carry ahead of a word; the sum's words. -/
def cry (A B k : Nat) : Nat := (A % M64 k + B % M64 k) / M64 k
theorem cry_le (A B k : Nat) : cry A B k ≤ 1 := by
  unfold cry
  have h1 := Nat.mod_lt A (M64_pos k)
  have h2 := Nat.mod_lt B (M64_pos k)
  have : (A % M64 k + B % M64 k) / M64 k < 2 := (Nat.div_lt_iff_lt_mul (M64_pos k)).2 (by omega)
  omega
theorem cry_zero (A B : Nat) : cry A B 0 = 0 := by
  unfold cry
  have e : M64 0 = 1 := rfl
  rw [e, Nat.mod_one, Nat.mod_one]
theorem cry_succ (A B k : Nat) : cry A B (k + 1) = (wd A k + wd B k + cry A B k) / 18446744073709551616 := by
  have h : cry A B (k + 1) = (A % M64 k + M64 k * wd A k + (B % M64 k + M64 k * wd B k)) / (M64 k * 18446744073709551616) := by
    unfold cry
    rw [mod_succ, mod_succ, M64_succ]
  rw [h, ← Nat.div_div_eq_div_mul]
  congr 1
  unfold cry
  rw [show A % M64 k + M64 k * wd A k + (B % M64 k + M64 k * wd B k) = A % M64 k + B % M64 k + M64 k * (wd A k + wd B k) by rw [Nat.mul_add]; omega, Nat.add_mul_div_left _ _ (M64_pos k)]
  omega
theorem sum_wd (A B k : Nat) : wd (A + B) k = (wd A k + wd B k + cry A B k) % 18446744073709551616 := by
  have e : (A + B) / M64 k = cry A B k + A / M64 k + B / M64 k := by
    have h1 : A + B = A % M64 k + B % M64 k + M64 k * (A / M64 k + B / M64 k) := by
      rw [Nat.mul_add]
      have := Nat.mod_add_div A (M64 k)
      have := Nat.mod_add_div B (M64 k)
      omega
    rw [h1, Nat.add_mul_div_left _ _ (M64_pos k)]
    unfold cry
    omega
  unfold wd
  rw [e]
  omega
/-- The borrow ahead of a word; the difference's words: of a number that is 2^512 more. -/
def brw (A B k : Nat) : Nat := if A % M64 k < B % M64 k then 1 else 0
theorem brw_le (A B k : Nat) : brw A B k ≤ 1 := by unfold brw; split <;> omega
theorem brw_zero (A B : Nat) : brw A B 0 = 0 := by
  unfold brw
  have e : M64 0 = 1 := rfl
  rw [e, Nat.mod_one, Nat.mod_one, if_neg (by omega)]
theorem lt_lex {m a b x y : Nat} (ha : a < m) (hb : b < m) : a + m * x < b + m * y ↔ x < y ∨ x = y ∧ a < b := by
  constructor
  · intro h
    by_cases h1 : x < y
    · exact .inl h1
    · by_cases h2 : x = y
      · subst h2; exact .inr ⟨rfl, by omega⟩
      · exfalso
        have h3 : y + 1 ≤ x := by omega
        have h4 := Nat.mul_le_mul_left m h3
        rw [Nat.mul_add, Nat.mul_one] at h4
        omega
  · rintro (h | ⟨rfl, h⟩)
    · have h4 := Nat.mul_le_mul_left m (show x + 1 ≤ y from h)
      rw [Nat.mul_add, Nat.mul_one] at h4
      omega
    · omega
theorem brw_succ (A B k : Nat) : brw A B (k + 1) = if wd A k < wd B k + brw A B k then 1 else 0 := by
  have h : (A % M64 (k + 1) < B % M64 (k + 1)) ↔ (wd A k < wd B k + brw A B k) := by
    rw [mod_succ, mod_succ, lt_lex (Nat.mod_lt A (M64_pos k)) (Nat.mod_lt B (M64_pos k))]
    unfold brw
    split <;> omega
  show (if A % M64 (k + 1) < B % M64 (k + 1) then 1 else 0) = _
  simp only [h]
theorem dif_wd (A B D k : Nat) (h : D + B = A + M64 8) (hk : k < 8) : wd D k = (wd A k + 18446744073709551616 - wd B k - brw A B k) % 18446744073709551616 := by
  have hs := sum_wd D B k
  have hc : cry D B k = brw A B k := by
    have h1 := congrArg (· % M64 k) h
    have e8 : M64 8 = M64 k * M64 (8 - k) := by
      rw [← M64_add]
      congr 1
      omega
    simp only [e8, Nat.add_mul_mod_self_left] at h1
    rw [Nat.add_mod] at h1
    unfold cry brw
    have ha := Nat.mod_lt D (M64_pos k)
    have hb := Nat.mod_lt B (M64_pos k)
    generalize D % M64 k = d at *
    generalize B % M64 k = b at *
    generalize A % M64 k = a at *
    generalize M64 k = m at *
    by_cases hlt : d + b < m
    · rw [Nat.mod_eq_of_lt hlt] at h1
      rw [Nat.div_eq_of_lt hlt, if_neg (by omega)]
    · have e : d + b = (d + b - m) + m := by omega
      have : (d + b) % m = d + b - m := by rw [e, Nat.add_mod_right, Nat.mod_eq_of_lt (by omega)]; omega
      rw [this] at h1
      have e2 : (d + b) / m = 1 := by
        rw [e, Nat.add_div_right _ (by omega), Nat.div_eq_of_lt (by omega)]
      rw [e2, if_pos (by omega)]
  have hw : wd (D + B) k = wd A k := by
    rw [h]
    have := wd_add_high A 1 k 8 hk
    simpa using this
  rw [hw, hc] at hs
  have l1 := wd_lt D k
  have l2 := wd_lt A k
  have l3 := wd_lt B k
  have l4 := brw_le A B k
  omega

/-- One word put into a number. -/
def putw (V k x : Nat) : Nat := V % M64 k + x * M64 k + V / M64 (k + 1) * M64 (k + 1)
theorem split_at (V k : Nat) : V = V % M64 k + wd V k * M64 k + V / M64 (k + 1) * M64 (k + 1) := by
  have h1 := Nat.mod_add_div V (M64 (k + 1))
  rw [mod_succ, Nat.mul_comm (M64 k), Nat.mul_comm (M64 (k + 1))] at h1
  exact h1.symm
theorem putw_add (V k x : Nat) : putw V k x + wd V k * M64 k = V + x * M64 k := by
  have h := split_at V k
  unfold putw
  omega
theorem wd_putw (V k x j : Nat) (hx : x < 18446744073709551616) : wd (putw V k x) j = if j = k then x else wd V j := by
  have l1 : V % M64 k < M64 k := Nat.mod_lt _ (M64_pos k)
  by_cases h1 : j = k
  · subst h1
    rw [if_pos rfl]
    unfold putw
    rw [wd_add_high _ _ _ _ (by omega)]
    exact wd_top l1 hx
  · rw [if_neg h1]
    by_cases h2 : j < k
    · conv => rhs; rw [split_at V k]
      unfold putw
      rw [wd_add_high _ _ _ _ (by omega), wd_add_high _ _ _ _ h2, wd_add_high _ _ _ _ (by omega), wd_add_high _ _ _ _ h2]
    · have l2 := wd_lt V k
      conv => rhs; rw [split_at V k]
      unfold putw
      generalize wd V k = y at *
      unfold wd
      rw [div_add_low (top_lt l1 hx) (by omega), div_add_low (top_lt l1 l2) (by omega)]
theorem putw_lt {V k x n : Nat} (hV : V < M64 n) (hk : k < n) (hx : x < 18446744073709551616) : putw V k x < M64 n := by
  have l1 : V % M64 k < M64 k := Nat.mod_lt _ (M64_pos k)
  have l2 := top_lt l1 hx
  unfold putw
  have e : M64 n = M64 (k + 1) * M64 (n - (k + 1)) := by
    show 2 ^ (64 * n) = 2 ^ (64 * (k + 1)) * 2 ^ (64 * (n - (k + 1)))
    rw [← Nat.pow_add]
    congr 1
    omega
  have h3 : V / M64 (k + 1) < M64 (n - (k + 1)) := (Nat.div_lt_iff_lt_mul (M64_pos _)).2 (by rw [Nat.mul_comm, ← e]; exact hV)
  have h4 := Nat.mul_le_mul_right (M64 (k + 1)) (show V / M64 (k + 1) + 1 ≤ _ from h3)
  rw [Nat.add_mul, Nat.mul_comm (M64 (n - (k + 1))), ← e] at h4
  omega
theorem eq_of_wd {A B n : Nat} (hA : A < M64 n) (hB : B < M64 n) (h : ∀ k, k < n → wd A k = wd B k) : A = B := by
  have : ∀ k, k ≤ n → A % M64 k = B % M64 k := by
    intro k
    induction k with
    | zero => intro _; have e : M64 0 = 1 := rfl; rw [e, Nat.mod_one, Nat.mod_one]
    | succ k ih => intro hk; rw [mod_succ, mod_succ, ih (by omega), h k (by omega)]
  have := this n (Nat.le_refl n)
  rwa [Nat.mod_eq_of_lt hA, Nat.mod_eq_of_lt hB] at this

/-- Bytes, the lowest one first, as a number. -/
def lev : List Nat → Nat
  | [] => 0
  | c :: l => c + 256 * lev l
theorem lev_append (l m : List Nat) : lev (l ++ m) = lev l + 256 ^ l.length * lev m := by
  induction l with
  | nil => simp [lev]
  | cons c l ih => simp only [List.cons_append, lev, ih, List.length_cons, Nat.pow_succ]; rw [Nat.mul_add, Nat.mul_comm (256 ^ l.length) 256, Nat.mul_assoc]; omega
theorem lev_lt {l : List Nat} (h : ∀ c ∈ l, c < 256) : lev l < 256 ^ l.length := by
  induction l with
  | nil => simp [lev]
  | cons c l ih =>
    have h1 := ih (fun c hc => h c (List.mem_cons_of_mem _ hc))
    have h2 := h c (List.mem_cons_self ..)
    simp only [lev, List.length_cons, Nat.pow_succ]
    omega
theorem pow256 (k : Nat) : 256 ^ k = 2 ^ (8 * k) := by rw [show (256 : Nat) = 2 ^ 8 from rfl, ← Nat.pow_mul]
/-- One byte more. -/
theorem wd_byte {N k c : Nat} (hN : N < 256 ^ k) (hc : c < 256) (j : Nat) : wd (N + c * 256 ^ k) j = if j = k / 8 then wd N j ||| c * 2 ^ (8 * (k % 8)) else wd N j := by
  have e : 256 ^ k = 2 ^ (8 * (k % 8)) * M64 (k / 8) := by
    rw [pow256]
    show 2 ^ (8 * k) = 2 ^ (8 * (k % 8)) * 2 ^ (64 * (k / 8))
    rw [← Nat.pow_add]
    congr 1
    omega
  have hq : N / M64 (k / 8) < 2 ^ (8 * (k % 8)) := (Nat.div_lt_iff_lt_mul (M64_pos _)).2 (by rw [← e]; exact hN)
  have h7 : 2 ^ (8 * (k % 8)) ≤ 2 ^ 56 := Nat.pow_le_pow_right (by decide) (by omega)
  have hw : wd N (k / 8) = N / M64 (k / 8) := Nat.mod_eq_of_lt (by omega)
  have hx : c * 2 ^ (8 * (k % 8)) + N / M64 (k / 8) < 18446744073709551616 := by
    have h1 : (c + 1) * 2 ^ (8 * (k % 8)) ≤ 256 * 2 ^ 56 := Nat.mul_le_mul hc h7
    rw [Nat.add_mul] at h1
    omega
  rw [e, ← Nat.mul_assoc]
  by_cases h1 : j = k / 8
  · subst h1
    rw [if_pos rfl, hw]
    unfold wd
    rw [Nat.add_mul_div_right _ _ (M64_pos _), Nat.mod_eq_of_lt (by omega), Nat.add_comm, Nat.mul_comm c, Nat.two_pow_add_eq_or_of_lt hq, Nat.or_comm]
  · rw [if_neg h1]
    by_cases h2 : j < k / 8
    · exact wd_add_high _ _ _ _ h2
    · have h3 : k / 8 + 1 ≤ j := by omega
      rw [wd_of_lt' (N := N) (j := k / 8 + 1) (Nat.lt_of_lt_of_le hN (by rw [e, M64_succ, Nat.mul_comm]; exact Nat.mul_le_mul_left _ (by omega))) h3]
      refine wd_of_lt' (j := k / 8 + 1) ?_ h3
      have hN2 : N < 2 ^ (8 * (k % 8)) * M64 (k / 8) := by rw [← e]; exact hN
      have h4 : (c + 1) * 2 ^ (8 * (k % 8)) * M64 (k / 8) ≤ 18446744073709551616 * M64 (k / 8) := Nat.mul_le_mul_right _ (by
        have h1 : (c + 1) * 2 ^ (8 * (k % 8)) ≤ 256 * 2 ^ 56 := Nat.mul_le_mul hc h7
        omega)
      rw [M64_succ, Nat.mul_comm (M64 (k / 8))]
      rw [Nat.add_mul, Nat.add_mul, Nat.one_mul] at h4
      omega
/-- A byte of a number. -/
def byt (N i : Nat) : Nat := N / 2 ^ (8 * i) % 256
theorem byt_lt (N i : Nat) : byt N i < 256 := Nat.mod_lt _ (by decide)
theorem wd_byt (N i : Nat) : wd N (i / 8) / 2 ^ (8 * (i % 8)) % 256 = byt N i := by
  unfold wd byt
  have e : (18446744073709551616 : Nat) = 2 ^ (8 * (i % 8)) * (256 * 2 ^ (56 - 8 * (i % 8))) := by
    rw [show (256 : Nat) = 2 ^ 8 from rfl, ← Nat.pow_add, ← Nat.pow_add, show 8 * (i % 8) + (8 + (56 - 8 * (i % 8))) = 64 by omega]
  rw [e, Nat.mod_mul_right_div_self, Nat.mod_mul_right_mod, Nat.div_div_eq_div_mul]
  congr 2
  show 2 ^ (64 * (i / 8)) * 2 ^ (8 * (i % 8)) = _
  rw [← Nat.pow_add]
  congr 1
  omega
theorem lev_byts (N n : Nat) : lev ((List.range n).map (byt N)) = N % 256 ^ n := by
  induction n with
  | zero => simp [lev, Nat.mod_one]
  | succ n ih =>
    rw [List.range_succ, List.map_append, lev_append, ih]
    simp only [List.length_map, List.length_range, List.map_cons, List.map_nil, lev, Nat.mul_zero, Nat.add_zero]
    rw [Nat.pow_succ, Nat.mod_mul]
    unfold byt
    rw [← pow256]
/-- A multiplication's step. -/
theorem mul_step {a b o v high low one c : Nat} (ha : a < 18446744073709551616) (hb : b < 18446744073709551616) (ho : o < 18446744073709551616) (hv : v < 18446744073709551616)
    (hhi : high = a * b / 18446744073709551616) (hlo : low = a * b % 18446744073709551616) (h1 : one = (low + v) / 18446744073709551616) (hc : c = ((low + v) % 18446744073709551616 + o) / 18446744073709551616) :
    c + high + one < 18446744073709551616 ∧ (((low + v) % 18446744073709551616 + o) % 18446744073709551616) + (c + high + one) * 18446744073709551616 = a * b + v + o := by
  have hp : a * b ≤ 18446744073709551615 * 18446744073709551615 := Nat.mul_le_mul (by omega) (by omega)
  generalize a * b = p at *
  subst hhi hlo h1 hc
  omega

end Go.Proofs.YthpbipebpaeagaaDoor
