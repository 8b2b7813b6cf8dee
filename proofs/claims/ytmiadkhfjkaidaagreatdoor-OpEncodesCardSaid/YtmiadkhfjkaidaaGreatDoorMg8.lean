/- Numbers as digits of seven bits: the bytes of a number, and the number that bytes begin with. Plain mathematics. What each call of a writer leaves: the bytes of the field behind what was written; for rows of up to 2^47 bytes. Texts and bytes turned into each other, and the writer's Text; for any bytes. What a writer leaves behind a byte, and behind bytes after their number; for rows of up to 2^47 bytes. The writer's Text; for any text. The document's own answers on bytes: what each of its calls makes, in new memory; for any input. -/
import Derived.Test.YtmiadkhfjkaidaaGreatDoorMg7
namespace Go.Proofs.YtmiadkhfjkaidaaGreatDoor
section
/-- A number's bytes. -/
def enc (n : Nat) : List UInt8 :=
  if h : n < 128 then [UInt8.ofNat n] else UInt8.ofNat (n % 128 + 128) :: enc (n / 128)
termination_by n
decreasing_by omega

/-- The number that bytes begin with, of whatever size, and how many bytes it has. -/
def rdec : List UInt8 → Option (Nat × Nat)
  | [] => none
  | c :: r => if c.toNat < 128 then some (c.toNat, 1) else
    match rdec r with
    | none => none
    | some (n, s) => if n = 0 then none else some (c.toNat % 128 + 128 * n, s + 1)

/-- The number of 64 bits that bytes begin with. -/
def dec (l : List UInt8) : Option (Nat × Nat) :=
  match rdec l with
  | none => none
  | some (n, s) => if n < 18446744073709551616 then some (n, s) else none

/-- The value of digits, the lowest one first. -/
def dig : List UInt8 → Nat
  | [] => 0
  | c :: r => c.toNat % 128 + 128 * dig r

theorem toNat_low {n : Nat} (h : n < 256) : (UInt8.ofNat n).toNat = n := by simp [Nat.mod_eq_of_lt h]

theorem enc_small {n : Nat} (h : n < 128) : enc n = [UInt8.ofNat n] := by rw [enc, dif_pos h]
theorem enc_big {n : Nat} (h : ¬ n < 128) : enc n = UInt8.ofNat (n % 128 + 128) :: enc (n / 128) := by rw [enc, dif_neg h]

theorem rdec_enc (n : Nat) : ∀ r : List UInt8, rdec (enc n ++ r) = some (n, (enc n).length) := by
  induction n using Nat.strongRecOn with
  | ind n ih =>
    intro r
    by_cases h : n < 128
    · rw [enc_small h]
      have h1 := toNat_low (n := n) (by omega)
      simp only [List.cons_append, List.nil_append, rdec, h1, if_pos h, List.length_cons, List.length_nil]
    · rw [enc_big h]
      have h1 := toNat_low (n := n % 128 + 128) (by omega)
      have h2 := ih (n / 128) (by omega) r
      have h3 : ¬ n % 128 + 128 < 128 := by omega
      have h4 : ¬ n / 128 = 0 := by omega
      simp only [List.cons_append, rdec, h1, if_neg h3, h2, if_neg h4, List.length_cons]
      congr 2
      omega

theorem enc_rdec : ∀ (l : List UInt8) (n s : Nat), rdec l = some (n, s) → s ≤ l.length ∧ 0 < s ∧ l.take s = enc n := by
  intro l
  induction l with
  | nil => intro n s h; simp [rdec] at h
  | cons c r ih =>
    intro n s h
    rw [rdec] at h
    by_cases hc : c.toNat < 128
    · rw [if_pos hc] at h
      injection h with h; injection h with h1 h2
      subst h1 h2
      refine ⟨by simp, by omega, ?_⟩
      rw [enc_small hc]
      simp
    · rw [if_neg hc] at h
      cases hr : rdec r with
      | none => rw [hr] at h; cases h
      | some p =>
        obtain ⟨m, t⟩ := p
        rw [hr] at h
        have hcl : c.toNat < 256 := c.toNat_lt
        by_cases hm : m = 0
        · simp [hm] at h
        · simp only [if_neg hm] at h
          injection h with h; injection h with h1 h2
          subst h1 h2
          obtain ⟨g1, g2, g3⟩ := ih m t hr
          refine ⟨by simp; omega, by omega, ?_⟩
          rw [enc_big (by omega), List.take_succ_cons, g3]
          have e1 : (c.toNat % 128 + 128 * m) % 128 + 128 = c.toNat := by omega
          have e2 : (c.toNat % 128 + 128 * m) / 128 = m := by omega
          rw [e1, e2]
          simp

theorem enc_length_le {n : Nat} (h : n < 18446744073709551616) : (enc n).length ≤ 10 := by
  have step : ∀ (k n : Nat), n < 128 ^ (k + 1) → (enc n).length ≤ k + 1 := by
    intro k
    induction k with
    | zero => intro n h; rw [enc_small (by simpa using h)]; simp
    | succ k ih =>
      intro n h
      by_cases hn : n < 128
      · rw [enc_small hn]; simp
      · rw [enc_big hn, List.length_cons]
        have := ih (n / 128) (by rw [Nat.div_lt_iff_lt_mul (by omega)]; rw [Nat.pow_succ] at h; exact h)
        omega
  exact step 9 n (by omega)
theorem enc_length_pos (n : Nat) : 0 < (enc n).length := by
  by_cases h : n < 128
  · rw [enc_small h]; simp
  · rw [enc_big h]; simp

theorem dec_enc {n : Nat} (h : n < 18446744073709551616) (r : List UInt8) : dec (enc n ++ r) = some (n, (enc n).length) := by
  unfold dec; rw [rdec_enc]; simp [h]

theorem enc_dec {l : List UInt8} {n s : Nat} (h : dec l = some (n, s)) : n < 18446744073709551616 ∧ s ≤ l.length ∧ 0 < s ∧ l.take s = enc n := by
  unfold dec at h
  cases hr : rdec l with
  | none => rw [hr] at h; cases h
  | some p =>
    obtain ⟨m, t⟩ := p
    rw [hr] at h
    by_cases hm : m < 18446744073709551616
    · simp only [if_pos hm] at h
      injection h with h; injection h with h1 h2
      subst h1 h2
      exact ⟨hm, enc_rdec l _ _ hr⟩
    · simp [hm] at h

theorem dig_snoc (l : List UInt8) (c : UInt8) : dig (l ++ [c]) = dig l + c.toNat % 128 * 128 ^ l.length := by
  induction l with
  | nil => simp [dig]
  | cons d r ih =>
    simp only [List.cons_append, dig, ih, List.length_cons, Nat.pow_succ, Nat.mul_add]
    have : 128 * (c.toNat % 128 * 128 ^ r.length) = c.toNat % 128 * (128 ^ r.length * 128) := by
      rw [Nat.mul_comm 128, Nat.mul_assoc]
    omega

theorem dig_lt (l : List UInt8) : dig l < 128 ^ l.length := by
  induction l with
  | nil => simp [dig]
  | cons d r ih => simp only [dig, List.length_cons, Nat.pow_succ]; omega

/-- What bytes come to behind a row of digits that go on. -/
theorem rdec_front : ∀ (p r : List UInt8), (∀ c ∈ p, ¬ c.toNat < 128) →
    rdec (p ++ r) = match rdec r with
      | none => none
      | some (n, s) => if n = 0 ∧ p ≠ [] then none else some (dig p + 128 ^ p.length * n, s + p.length) := by
  intro p
  induction p with
  | nil => intro r _; cases h : rdec r with
    | none => simp [h]
    | some q => simp [h, dig]
  | cons c p ih =>
    intro r hp
    have hc := hp c (by simp)
    have ih := ih r (fun d hd => hp d (by simp [hd]))
    rw [List.cons_append, rdec, if_neg hc, ih]
    cases h : rdec r with
    | none => rfl
    | some q =>
      obtain ⟨n, s⟩ := q
      by_cases hn : n = 0
      · subst hn
        by_cases hpn : p = []
        · subst hpn; simp [dig]
        · simp [hpn]
      · have h1 : ¬ dig p + 128 ^ p.length * n = 0 := by
          have : 0 < 128 ^ p.length * n := Nat.mul_pos (Nat.pow_pos (by omega)) (by omega)
          omega
        simp only [hn, false_and, if_false, if_neg h1, dig, List.length_cons, Nat.pow_succ]
        congr 2
        · rw [Nat.mul_add, Nat.mul_comm (128 ^ p.length) 128, Nat.mul_assoc]; omega

section
variable {k : List UInt8} {j : Nat}
theorem cut_at {x : UInt8} (hx : k[j]? = some x) : k = k.take j ++ x :: k.drop (j + 1) := by
  obtain ⟨hj, e⟩ := List.getElem?_eq_some_iff.1 hx
  rw [← e, List.getElem_cons_drop, List.take_append_drop]
theorem len_take {x : UInt8} (hx : k[j]? = some x) : (k.take j).length = j := by
  obtain ⟨hj, _⟩ := List.getElem?_eq_some_iff.1 hx
  rw [List.length_take]; omega
theorem dec_end (h : ∀ d ∈ k, ¬ d.toNat < 128) : dec k = none := by
  have := rdec_front k [] h
  rw [List.append_nil] at this
  unfold dec; rw [this]; simp [rdec]
theorem dec_stop {x : UInt8} (h : ∀ d ∈ k.take j, ¬ d.toNat < 128) (hx : k[j]? = some x) (hj : j = 9) (h1 : 1 < x.toNat) : dec k = none := by
  have hl := len_take hx
  have hf := rdec_front (k.take j) (x :: k.drop (j + 1)) h
  rw [← cut_at hx, hl, hj] at hf
  have hb : ∀ n, 2 ≤ n → ¬ dig (k.take 9) + 128 ^ 9 * n < 18446744073709551616 := by
    intro n hn
    have : 128 ^ 9 * 2 ≤ 128 ^ 9 * n := Nat.mul_le_mul_left _ hn
    omega
  unfold dec
  rw [hf]
  by_cases hc : x.toNat < 128
  · have h0 : ¬ x.toNat = 0 := by omega
    simp only [rdec, if_pos hc, h0, false_and, if_false, if_neg (hb _ h1)]
  · simp only [rdec, if_neg hc]
    cases hr : rdec (k.drop (9 + 1)) with
    | none => rfl
    | some q =>
      obtain ⟨n, s⟩ := q
      by_cases hn : n = 0
      · simp [hn]
      · have h2 : ¬ x.toNat % 128 + 128 * n = 0 := by omega
        simp only [if_neg hn, h2, false_and, if_false, if_neg (hb (x.toNat % 128 + 128 * n) (by omega))]
theorem dec_zero {x : UInt8} (h : ∀ d ∈ k.take j, ¬ d.toNat < 128) (hx : k[j]? = some x) (hj : 0 < j) (h1 : x.toNat = 0) : dec k = none := by
  have hl := len_take hx
  have hf := rdec_front (k.take j) (x :: k.drop (j + 1)) h
  have hp : k.take j ≠ [] := by intro e; rw [e] at hl; simp at hl; omega
  rw [← cut_at hx] at hf
  unfold dec
  rw [hf]
  simp [rdec, h1, hp]
theorem dec_val {x : UInt8} (h : ∀ d ∈ k.take j, ¬ d.toNat < 128) (hx : k[j]? = some x) (hj : j ≤ 9) (h9 : j = 9 → x.toNat ≤ 1) (hc : x.toNat < 128) (h0 : x.toNat = 0 → j = 0) :
    dec k = some (dig (k.take j) + x.toNat % 128 * 128 ^ j, j + 1) := by
  have hl := len_take hx
  have hf := rdec_front (k.take j) (x :: k.drop (j + 1)) h
  have hd := dig_lt (k.take j)
  rw [← cut_at hx] at hf
  rw [hl] at hf hd
  have hm : x.toNat % 128 = x.toNat := Nat.mod_eq_of_lt hc
  have hn : ¬ (x.toNat = 0 ∧ k.take j ≠ []) := by
    rintro ⟨e, hp⟩
    have := h0 e
    subst this
    simp at hp
  have hv : dig (k.take j) + 128 ^ j * x.toNat < 18446744073709551616 := by
    have h1 : dig (k.take j) + 128 ^ j * x.toNat < 128 ^ j * (x.toNat + 1) := by rw [Nat.mul_add]; omega
    by_cases hj9 : j = 9
    · have := h9 hj9
      have h2 : 128 ^ j * (x.toNat + 1) ≤ 128 ^ j * 2 := Nat.mul_le_mul_left _ (by omega)
      rw [hj9] at h1 h2 ⊢
      omega
    · have h2 : 128 ^ j * (x.toNat + 1) ≤ 128 ^ 8 * 128 := Nat.mul_le_mul (Nat.pow_le_pow_right (by omega) (by omega)) (by omega)
      omega
  unfold dec
  rw [hf]
  simp only [rdec, if_pos hc, if_neg hn, if_pos hv]
  rw [hm, Nat.mul_comm (128 ^ j), Nat.add_comm 1 j]
theorem take_all_succ {x : UInt8} (h : ∀ d ∈ k.take j, ¬ d.toNat < 128) (hx : k[j]? = some x) (hc : ¬ x.toNat < 128) : ∀ d ∈ k.take (j + 1), ¬ d.toNat < 128 := by
  intro d hd
  rw [List.take_add_one, hx] at hd
  simp at hd
  rcases hd with hd | hd
  · exact h d hd
  · rw [hd]; exact hc
theorem dig_succ {x : UInt8} (hx : k[j]? = some x) : dig (k.take (j + 1)) = dig (k.take j) + x.toNat % 128 * 128 ^ j := by
  have hl := len_take hx
  rw [List.take_add_one, hx]
  show dig (k.take j ++ [x]) = _
  rw [dig_snoc, hl]
end
end

section
open Go.RowKit

theorem or128 : ∀ x, x < 256 → x ||| 128 = x % 128 + 128 := by decide +kernel
theorem or_goes (m : Nat) : bits .or .u8 ((m : Int) % 256) 128 = (((UInt8.ofNat (m % 128 + 128)).toNat : Nat) : Int) := by
  have h1 : (m : Int) % 256 = ((m % 256 : Nat) : Int) := by omega
  rw [h1]
  have h2 := u8_or_nat (m % 256) 128 (by omega) (by omega)
  rw [show ((128 : Nat) : Int) = 128 from rfl] at h2
  rw [h2, or128 _ (by omega), toNat_low (by omega)]
  congr 2
  omega
theorem low_last {m : Nat} (h : m < 128) : [Value.int .u8 (m : Int)] = Bs [UInt8.ofNat m] := by simp only [Bs, List.map_cons, List.map_nil]; rw [toNat_low (by omega)]

theorem big_goes (m : Nat) : [Value.int .u8 (bits .or .u8 ((m : Int) % 256) 128)] = Bs [UInt8.ofNat (m % 128 + 128)] := by rw [or_goes]; rfl

set_option maxHeartbeats 400000 in
theorem number_any (a : Addr) (v : Value) (l : List UInt8) (n : Nat) (w : World) (hw : Wr w a v l) (hn : n < 18446744073709551616) (hlen : l.length + 10 ≤ 140737488355328) :
    Calls Tryz.prog 44 #[.pointer (some a), .int .u64 n] w fun e w' => e = .returned (.tuple #[]) ∧ ∃ v', Wrote w w' a v v' (l ++ enc n) := by
  have hel := enc_length_le hn
  go_enter Tryz.func44, Tryz.ntmps44
  go_wp2_with fail
  go_loopw [1] (fun i wr => ∃ (m : Nat) (p : List UInt8) (v' : Value), i = .int .u64 m ∧ m < 18446744073709551616 ∧ enc n = p ++ enc m ∧ Wrote w wr a v v' (l ++ p)) (fun i _ => (intOf i).toNat)
  case atStart => exact ⟨n, [], v, rfl, hn, rfl, by rw [List.append_nil]; exact .refl hw⟩
  case round =>
    obtain ⟨m, p, v1, rfl, hm, he, hw1⟩ := hrel
    have hpl : (l ++ p).length + 1 ≤ 140737488355328 := by
      have := congrArg List.length he
      have h3 := enc_length_pos m
      simp at this ⊢
      omega
    have HE := Lib.hid he
    clear he
    by_cases hc : m < 128
    · have hc' : (m : Int) ≤ 127 := by omega
      go_wp2_with fail
      refine (raw_any a v1 (l ++ p) _ 1 1 [UInt8.ofNat m] _ _ (hw1.wr.alloc _) (Rd.lit _ _ _ _ (by exact low_last hc) 1 rfl) hpl).mono ?_
      rintro e w2 ⟨rfl, v2, hw2⟩
      go_wp2_with fail
      go_end0
      refine ⟨rfl, v2, ?_⟩
      rw [HE.out, enc_small hc, ← List.append_assoc]
      exact hw1.trans (hw2.after ((Below.refl _ _).alloc (Nat.le_refl _) _))
    · have hc' : (127 : Int) < m := by omega
      go_wp2_with fail
      refine (raw_any a v1 (l ++ p) _ 1 1 [UInt8.ofNat (m % 128 + 128)] _ _ (hw1.wr.alloc _) (Rd.lit _ _ _ _ (by exact big_goes m) 1 rfl) hpl).mono ?_
      rintro e w2 ⟨rfl, v2, hw2⟩
      go_wp2_with fail
      go_roundw
      case rel =>
        refine ⟨m / 128, p ++ [UInt8.ofNat (m % 128 + 128)], v2, by go_num, by omega, by rw [HE.out, enc_big hc]; simp, ?_⟩
        rw [← List.append_assoc]
        exact hw1.trans (hw2.after ((Below.refl _ _).alloc (Nat.le_refl _) _))
      case measure => simp [intOf]; omega

/-- The number that stands for a signed one. -/
def zig (n : Int) : Nat := if n < 0 then (-2 * n - 1).toNat else (2 * n).toNat

theorem xor_ones {x : Nat} (h : x < 2 ^ 64) : (2 ^ 64 - 1) ^^^ x = 2 ^ 64 - (x + 1) := by
  apply Nat.eq_of_testBit_eq
  intro i
  rw [Nat.testBit_xor, Nat.testBit_two_pow_sub_one, Nat.testBit_two_pow_sub_succ h]
  by_cases hi : i < 64
  · simp [hi]
  · have : x.testBit i = false := Nat.testBit_lt_two_pow (Nat.lt_of_lt_of_le h (Nat.pow_le_pow_right (by omega) (by omega)))
    simp [hi, this]
theorem not64 {x : Nat} (h : x < 2 ^ 64) : bits .xor .u64 IntKind.u64.max (x : Int) = ((2 ^ 64 - (x + 1) : Nat) : Int) := by
  have h1 : IntKind.u64.max = ((2 ^ 64 - 1 : Nat) : Int) := rfl
  rw [h1, u64_xor_nat (2 ^ 64 - 1) x (by omega) (by omega), xor_ones h]
theorem fold_below {n : Int} (h1 : -9223372036854775808 ≤ n) (h : n < 0) : bits .xor .u64 IntKind.u64.max (IntKind.u64.wrap (IntKind.u64.wrap n * 2)) = zig n := by
  rw [IntKind.wrap_u64, IntKind.wrap_u64]
  have e : (n % 18446744073709551616 * 2 % 18446744073709551616 : Int) = ((2 * n + 18446744073709551616).toNat : Int) := by omega
  rw [e, not64 (by omega)]
  unfold zig
  rw [if_pos h]
  omega

set_option maxHeartbeats 400000 in
theorem fold_any (n : Int) (w : World) (h1 : -9223372036854775808 ≤ n) (h2 : n ≤ 9223372036854775807) :
    Calls Tryz.prog 163 #[.int .i64 n] w fun e w' => e = .returned (.int .u64 (zig n)) ∧ w = w' := by
  by_cases h : n < 0
  · have hz := Lib.hid (fold_below h1 h)
    go_enter Tryz.func163, Tryz.ntmps163
    go_wp2
    go_ret
    exact ⟨by rw [← hz.out]; rfl, rfl⟩
  · have hz : n * 2 = (zig n : Int) := by unfold zig; rw [if_neg h]; omega
    have HZ := Lib.hid hz
    clear hz
    go_enter Tryz.func163, Tryz.ntmps163
    go_wp2
    go_ret
    exact ⟨by rw [← HZ.out]; rfl, rfl⟩

theorem zig_lt {n : Int} (h1 : -9223372036854775808 ≤ n) (h2 : n ≤ 9223372036854775807) : zig n < 18446744073709551616 := by unfold zig; split <;> omega

set_option maxHeartbeats 400000 in
theorem int_any (a : Addr) (v : Value) (l : List UInt8) (n : Int) (w : World) (hw : Wr w a v l) (h1 : -9223372036854775808 ≤ n) (h2 : n ≤ 9223372036854775807) (hlen : l.length + 10 ≤ 140737488355328) :
    Calls Tryz.prog 125 #[.pointer (some a), .int .i64 n] w fun e w' => e = .returned (.tuple #[]) ∧ ∃ v', Wrote w w' a v v' (l ++ enc (zig n)) := by
  go_enter Tryz.func125, Tryz.ntmps125
  go_wp2_with fail
  refine (fold_any n _ h1 h2).mono ?_
  rintro e w2 ⟨rfl, rfl⟩
  go_wp2_with fail
  refine (number_any a v l (zig n) _ hw (zig_lt h1 h2) hlen).mono ?_
  rintro e w2 ⟨rfl, v2, hw2⟩
  go_wp2_with fail
  go_end0
  exact ⟨rfl, v2, hw2⟩

set_option maxHeartbeats 400000 in
/-- slices.Clone at bytes. -/
theorem clone_any (A : Option Addr) (n c : Nat) (k : List UInt8) (F : Nat → Prop) (w : World) (hr : Rd w F A n (Bs k)) (hn : n ≤ 140737488355328) :
    Calls Tryz.prog 47 #[.slice A n c] w fun e w' => ∃ v, e = .returned v ∧ w'.ownsRow w.heap.size 5 1 v k.length (Bs k) ∧ Below w.heap.size w w' := by
  obtain ⟨i0, hi, hz0, hz1, hz2⟩ := info_parts u8_info
  obtain rfl : n = k.length := hr.len.symm
  have qT : ∀ (w : World) (a : Option Addr) (n c n' c' : Nat), (binOp .eql 33 (.slice a n c) (.slice none n' c')).run Tryz.prog w = .ok (.bool a.isNone) w := fun w a n c n' c' => Lib.run_eql_slice_nil w _ _ a n c n' c' Tryz.underlying33
  cases A with
  | none =>
    have hk : k = [] := by
      rcases Nat.eq_zero_or_pos k.length with h | h
      · exact List.eq_nil_of_length_eq_zero h
      · obtain ⟨ad, h, _⟩ := hr.2 h; cases h
    subst hk
    go_enter Tryz.func47, Tryz.ntmps47
    go_wp2
    go_ret
    exact ⟨_, rfl, World.ownsRow_nil _ _ _ _, Below.refl _ _⟩
  | some ad =>
    have HR := Lib.hid hr
    clear hr
    go_enter Tryz.func47, Tryz.ntmps47
    go_wp2_with (at_builtin; refine wpList_append_rd _ rfl (.tmp 5) (.tmp 6) 33 rfl w.heap.size 5 i0 (.int .u8 0) 1 Tryz.underlying33 hi hz0 hz1 hz2 rfl (.slice (some ⟨w.heap.size, 0, none⟩) 0 0) 0 [] rfl (World.ownsRow_made w #[] 0 (Nat.le_refl _) (by unfold maxLen; omega) rfl) F (some ad) k.length c (Bs k) rfl (HR.out.belowAll ((Below.refl _ _).alloc (Nat.le_refl _) _)) (Bs_one k) ?c1 ?c2 ?c3 ?_)
    case c1 => unfold maxLen; omega
    case c2 => omega
    case c3 => simp
    intro v' w' hown hg hat
    go_wp2
    go_ret
    refine ⟨v', rfl, by simpa using hown, ((Below.refl _ _).alloc (Nat.le_refl _) _).grown hg (by simp) (fun j hj => ?_)⟩
    simp [Value.ownBlock] at hj
    omega
end

section
set_option maxRecDepth 100000
open Go.RowKit

/-- string(b). -/
theorem to_text (A : Option Addr) (n c : Nat) (k : List UInt8) (F : Nat → Prop) (w : World) (hr : Rd w F A n (Bs k)) :
    (convert 33 9 (.slice A n c)).run Tryz.prog w = .ok (.string ⟨k.toArray⟩) w := by
  obtain rfl : n = k.length := hr.len.symm
  by_cases hk : 0 < k.length
  · obtain ⟨ad, rfl, _, _, hc⟩ := hr.2 hk
    refine run_convert_bytes_back w _ _ _ ad c k Tryz.underlying33 Tryz.underlying5 Tryz.underlying9 fun j hj => ?_
    exact hc j _ (by rw [Bs_get, List.getElem?_eq_getElem hj]; rfl)
  · obtain rfl : k = [] := List.eq_nil_of_length_eq_zero (by omega)
    cases A with
    | none => exact run_convert_bytes_nil w _ _ Tryz.underlying33 Tryz.underlying5 _ _ _ Tryz.underlying9
    | some ad => exact run_convert_bytes_back w _ _ _ ad c [] Tryz.underlying33 Tryz.underlying5 Tryz.underlying9 (fun j hj => absurd hj (by simp))

/-- What the bytes of a text are, as a new row (it bears a mark behind its end). -/
theorem of_text (s : ByteArray) (w : World) : ∃ c w', (convert 9 33 (.string s)).run Tryz.prog w = .ok (.slice (some ⟨w.heap.size, 0, none⟩) s.size c) w' ∧
    Rd w' (fun j => j = w.heap.size) (some ⟨w.heap.size, 0, none⟩) s.size (Bs s.data.toList) ∧ Below w.heap.size w w' ∧ s.size ≤ c := by
  refine ⟨_, _, run_bytes_of_string w _ _ _ s Tryz.underlying9 Tryz.underlying33 Tryz.underlying5, ⟨by simp [Bs], fun hn => ⟨_, rfl, rfl, ?_, fun j u hu => ?_⟩⟩, ?_, grownCap_ge _ _ _ _⟩
  · simp
  · have hj : j < s.data.size := by
      have := (List.getElem?_eq_some_iff.1 hu).1
      simpa [Bs] using this
    have e : (⟨w.heap.size, 0, none⟩ : Addr).add j = ⟨w.heap.size, j, none⟩ := by unfold Addr.add; split <;> simp_all
    have h1 : w.drew.heap.size = w.heap.size := rfl
    rw [e, ← h1, World.cell?_alloc_mark, bytesRow_at s _ j hj, ← hu, Bs_get]
    rw [Array.getElem?_toList, Array.getElem?_eq_getElem hj]
    rfl
  · exact ((Below.refl _ _).drew).alloc (Nat.le_refl _) _
end

section
open Go.RowKit

/-- A bool's byte. -/
def bb (b : Bool) : UInt8 := if b then 1 else 0

set_option maxHeartbeats 400000 in
theorem bool_any (a : Addr) (v : Value) (l : List UInt8) (b : Bool) (w : World) (hw : Wr w a v l) (hlen : l.length + 10 ≤ 140737488355328) :
    Calls Tryz.prog 124 #[.pointer (some a), .bool b] w fun e w' => e = .returned (.tuple #[]) ∧ ∃ v', Wrote w w' a v v' (l ++ [bb b]) := by
  cases b
  all_goals
    go_enter Tryz.func124, Tryz.ntmps124
    go_wp2_with fail
  · refine (raw_any a v l _ 1 1 [0] _ _ (hw.alloc _) (Rd.lit _ _ _ _ rfl 1 rfl) (by omega)).mono ?_
    rintro e w2 ⟨rfl, v2, hw2⟩
    go_wp2_with fail
    go_end0
    exact ⟨rfl, v2, hw2.after ((Below.refl _ _).alloc (Nat.le_refl _) _)⟩
  · refine (raw_any a v l _ 1 1 [1] _ _ (hw.alloc _) (Rd.lit _ _ _ _ rfl 1 rfl) (by omega)).mono ?_
    rintro e w2 ⟨rfl, v2, hw2⟩
    go_wp2_with fail
    go_end0
    exact ⟨rfl, v2, hw2.after ((Below.refl _ _).alloc (Nat.le_refl _) _)⟩

set_option maxHeartbeats 400000 in
theorem byte_any (a : Addr) (v : Value) (l : List UInt8) (c : UInt8) (w : World) (hw : Wr w a v l) (hlen : l.length + 10 ≤ 140737488355328) :
    Calls Tryz.prog 42 #[.pointer (some a), .int .u8 c.toNat] w fun e w' => e = .returned (.tuple #[]) ∧ ∃ v', Wrote w w' a v v' (l ++ [c]) := by
  go_enter Tryz.func42, Tryz.ntmps42
  go_wp2_with fail
  refine (raw_any a v l _ 1 1 [c] _ _ (hw.alloc _) (Rd.lit _ _ _ _ rfl 1 rfl) (by omega)).mono ?_
  rintro e w2 ⟨rfl, v2, hw2⟩
  go_wp2_with fail
  go_end0
  exact ⟨rfl, v2, hw2.after ((Below.refl _ _).alloc (Nat.le_refl _) _)⟩

set_option maxHeartbeats 400000 in
theorem putbytes_any (a : Addr) (v : Value) (l : List UInt8) (A : Option Addr) (n c : Nat) (k : List UInt8) (F : Nat → Prop) (w : World) (hw : Wr w a v l) (hr : Rd w F A n (Bs k))
    (hF : ∀ j, F j → j ≠ a.block ∧ v.ownBlock ≠ some j) (hlen : l.length + n + 10 ≤ 140737488355328) :
    Calls Tryz.prog 123 #[.pointer (some a), .slice A n c] w fun e w' => e = .returned (.tuple #[]) ∧ ∃ v', Wrote w w' a v v' (l ++ (enc k.length ++ k)) := by
  have HR := Lib.hid hr
  have hn : n < 18446744073709551616 := by omega
  have HK := Lib.hid hr.len
  have hel := enc_length_le hn
  clear hr
  go_enter Tryz.func123, Tryz.ntmps123
  go_wp2_with fail
  refine (number_any a v l n _ hw hn (by omega)).mono ?_
  rintro e w2 ⟨rfl, v2, hw2⟩
  go_wp2_with fail
  refine (raw_any a v2 (l ++ enc n) A n c k F _ hw2.wr (HR.out.only hw2.only fun j hj hs => ?_) (by simp; omega)).mono ?_
  · rcases hs with hs | hs
    · exact (hF j hj).1 hs
    · exact (hF j hj).2 hs
  rintro e w3 ⟨rfl, v3, hw3⟩
  go_wp2_with fail
  go_end0
  refine ⟨rfl, v3, ?_⟩
  rw [HK.out, ← List.append_assoc]
  exact hw2.trans hw3
end

section
open Go.RowKit

set_option maxHeartbeats 400000 in
theorem puttext_any (a : Addr) (v : Value) (l : List UInt8) (s : ByteArray) (w : World) (hw : Wr w a v l) (hlen : l.length + s.size + 10 ≤ 140737488355328) :
    Calls Tryz.prog 86 #[.pointer (some a), .string s] w fun e w' => e = .returned (.tuple #[]) ∧ ∃ v', Wrote w w' a v v' (l ++ (enc s.size ++ s.data.toList)) := by
  obtain ⟨c, w1, hrun, hrd, hbel, _⟩ := of_text s w
  have HW := Lib.hid hw
  clear hw
  have HR := Lib.hid hrd
  have HB := Lib.hid hbel
  clear hrd hbel
  go_enter Tryz.func86, Tryz.ntmps86
  go_wp2_with fail
  have hsz : s.data.toList.length = s.size := by simp
  refine (putbytes_any a v l _ _ c s.data.toList _ _ (HW.out.below HB.out) HR.out (fun j hj => ?_) hlen).mono ?_
  · subst hj
    have h1 := HW.out.lt
    exact ⟨by omega, fun e => by have := HW.out.rowlt _ e; omega⟩
  rintro e w2 ⟨rfl, v2, hw2⟩
  go_wp2_with fail
  go_end0
  refine ⟨rfl, v2, ?_⟩
  rw [← hsz]
  exact hw2.after HB.out
end

section
open Go.RowKit

theorem ref_low {n : Nat} (h : n < 128) : [Value.int .u8 (n : Int)] = Bs [UInt8.ofNat n] := low_last h
theorem ref_big (n : Nat) : [Value.int .u8 ((n : Int) % 128 + 128)] = Bs [UInt8.ofNat (n % 128 + 128)] := by
  simp only [Bs, List.map_cons, List.map_nil]
  rw [toNat_low (by omega)]
  congr 2

/-- A new row of its own, from literal cells. -/
theorem own_lit (w : World) (l : List UInt8) (cs : Array Value) (h : cs.toList = Bs l) (n : Nat) (hn : l.length = n) (hm : n ≤ maxLen) :
    (w.alloc (.cells cs 5)).ownsRow w.heap.size 5 1 (.slice (some ⟨w.heap.size, 0, none⟩) n n) n (Bs l) := by
  have hs : cs.size = n := by rw [← Array.length_toList, h, Bs_length, hn]
  refine ⟨by rw [Bs_length]; omega, .inr ⟨w.heap.size, n, cs, rfl, Nat.le_refl _, heap_alloc_new w _, Nat.le_refl _, hm, by omega, ?_⟩⟩
  rw [h, List.take_of_length_le (by rw [Bs_length]; omega)]

set_option maxHeartbeats 400000 in
theorem refnum_any (k : Nat) : ∀ (n : Nat) (w : World), n ≤ k → n < 18446744073709551616 →
    Calls Tryz.prog 25 #[.int .u64 n] w fun e w' => ∃ v, e = .returned v ∧ w'.ownsRow w.heap.size 5 1 v (enc n).length (Bs (enc n)) ∧ Below w.heap.size w w' := by
  induction k using Nat.strongRecOn with
  | ind k ih =>
    intro n w hk hn
    by_cases h : n < 128
    · have hc : (n : Int) < 128 := by omega
      have HE := Lib.hid (enc_small h)
      go_enter Tryz.func25, Tryz.ntmps25
      go_wp2_with fail
      go_ret
      refine ⟨_, rfl, ?_, (Below.refl _ _).alloc (Nat.le_refl _) _⟩
      rw [HE.out]
      exact own_lit w [UInt8.ofNat n] _ (ref_low h) 1 rfl (by unfold maxLen; omega)
    · have hc : ¬ (n : Int) < 128 := by omega
      obtain ⟨i0, hi, hz0, hz1, hz2⟩ := info_parts u8_info
      have HE := Lib.hid (enc_big h)
      have hl := enc_length_le hn
      rw [enc_big h, List.length_cons] at hl
      have IH := Lib.hid ih
      clear ih
      go_enter Tryz.func25, Tryz.ntmps25
      go_wp2_with fail
      rw [show ((n : Int) / 128) = ((n / 128 : Nat) : Int) from by omega]
      refine (IH.out (n / 128) (by omega) (n / 128) _ (Nat.le_refl _) (by omega)).mono ?_
      rintro e w1 ⟨v, rfl, hown, hbel⟩
      obtain ⟨A, c, rfl⟩ := own_slice hown
      have HO := Lib.hid hown
      have HB := Lib.hid hbel
      clear hown hbel
      go_wp2_with (at_builtin; refine wpList_append_rd _ rfl (.tmp 12) (.tmp 15) 33 rfl w.heap.size 5 i0 (.int .u8 0) 1 Tryz.underlying33 hi hz0 hz1 hz2 rfl (.slice (some ⟨w.heap.size, 0, none⟩) 1 1) 1 (Bs [UInt8.ofNat (n % 128 + 128)]) rfl (own_below (own_lit w [UInt8.ofNat (n % 128 + 128)] _ (ref_big n) 1 rfl (by unfold maxLen; omega)) HB.out) _ A (enc (n / 128)).length c (Bs (enc (n / 128))) rfl (Rd.of_own HO.out) (Bs_one _) ?c1 ?c2 ?c3 ?_)
      case c1 => unfold maxLen; omega
      case c2 => omega
      case c3 => have := HB.out.size; simp at this; omega
      intro v' w' hown hg hat
      go_wp2
      go_ret
      refine ⟨v', rfl, ?_, ?_⟩
      · rw [HE.out]
        show w'.ownsRow _ _ _ _ _ (Bs ([UInt8.ofNat (n % 128 + 128)] ++ enc (n / 128)))
        rw [List.length_cons, Bs_append, Nat.add_comm, show UInt8.ofNat (n % 128 + 128) = UInt8.ofNat (n % 128) + 128 from by simp]
        exact hown
      · have h1 : Below w.heap.size w w1 := ((Below.refl _ _).alloc (Nat.le_refl _) _).trans (HB.out.mono (by simp))
        exact h1.grown hg h1.size (fun j hj => by simp [Value.ownBlock] at hj; omega)

theorem zig_below {n : Int} (h : n < 0) : 2 * -(n + 1) + 1 = zig n := by
  unfold zig
  rw [if_pos h]
  omega
theorem zig_from {n : Int} (h : ¬ n < 0) : 2 * n = zig n := by
  unfold zig
  rw [if_neg h]
  omega

set_option maxHeartbeats 400000 in
theorem refint_any (n : Int) (w : World) (h1 : -9223372036854775808 ≤ n) (h2 : n ≤ 9223372036854775807) :
    Calls Tryz.prog 56 #[.int .i64 n] w fun e w' => ∃ v, e = .returned v ∧ w'.ownsRow w.heap.size 5 1 v (enc (zig n)).length (Bs (enc (zig n))) ∧ Below w.heap.size w w' := by
  have hz := zig_lt h1 h2
  by_cases h : n < 0
  · have HZ := Lib.hid (zig_below h)
    go_enter Tryz.func56, Tryz.ntmps56
    go_wp2_with fail
    rw [HZ.out]
    refine (refnum_any _ (zig n) _ (Nat.le_refl _) hz).mono ?_
    rintro e w' ⟨v, rfl, hown, hbel⟩
    go_wp2_with fail
    go_ret
    exact ⟨_, rfl, hown, hbel⟩
  · have HZ := Lib.hid (zig_from h)
    go_enter Tryz.func56, Tryz.ntmps56
    go_wp2_with fail
    rw [HZ.out]
    refine (refnum_any _ (zig n) _ (Nat.le_refl _) hz).mono ?_
    rintro e w' ⟨v, rfl, hown, hbel⟩
    go_wp2_with fail
    go_ret
    exact ⟨_, rfl, hown, hbel⟩

set_option maxHeartbeats 400000 in
theorem refbytes_any (A : Option Addr) (n c : Nat) (k : List UInt8) (F : Nat → Prop) (w : World) (hr : Rd w F A n (Bs k)) (hn : n ≤ 140737488355000) :
    Calls Tryz.prog 55 #[.slice A n c] w fun e w' => ∃ v, e = .returned v ∧ w'.ownsRow w.heap.size 5 1 v (enc k.length ++ k).length (Bs (enc k.length ++ k)) ∧ Below w.heap.size w w' := by
  obtain ⟨i0, hi, hz0, hz1, hz2⟩ := info_parts u8_info
  obtain rfl : n = k.length := hr.len.symm
  have hl := enc_length_le (n := k.length) (by omega)
  have HR := Lib.hid hr
  clear hr
  go_enter Tryz.func55, Tryz.ntmps55
  go_wp2_with fail
  refine (refnum_any _ k.length _ (Nat.le_refl _) (by omega)).mono ?_
  rintro e w1 ⟨v, rfl, hown, hbel⟩
  have HO := Lib.hid hown
  have HB := Lib.hid hbel
  clear hown hbel
  go_wp2_with (at_builtin; refine wpList_append_rd _ rfl (.tmp 6) (.tmp 7) 33 rfl w.heap.size 5 i0 (.int .u8 0) 1 Tryz.underlying33 hi hz0 hz1 hz2 rfl v (enc k.length).length (Bs (enc k.length)) rfl HO.out F A k.length c (Bs k) rfl (HR.out.belowAll HB.out) (Bs_one _) ?c1 ?c2 ?c3 ?_)
  case c1 => unfold maxLen; omega
  case c2 => omega
  case c3 => exact HB.out.size
  intro v' w' hown hg hat
  go_wp2
  go_ret
  refine ⟨v', rfl, by rw [Bs_append, List.length_append]; exact hown, HB.out.grown hg HB.out.size fun j hj => (HO.out.lt j hj).1⟩
end

end Go.Proofs.YtmiadkhfjkaidaaGreatDoor
