import Derived.Laws.BitsAllLaws
import Derived.Laws.Bits64b
import Derived.Deep.CutRange
import Derived.Deep.CutBlock
import Derived.RegionTactic
import Derived.IntWalk
import Derived.Shelf.Spec.BitsCarry
import Derived.Shelf.Bits.Mul64
import Derived.Deep.MidRow
import Derived.Test.YtnpjecdodhkplaaGreatDoorSA
import Derived.Test.YtnpjecdodhkplaaGreatDoorRows
namespace Go.Proofs.YtnpjecdodhkplaaGreatDoor
set_option maxRecDepth 100000
open Go.RowKit
def Pr (n : Nat) : Prop := 2 ≤ n ∧ ∀ d, d ∣ n → d = 1 ∨ d = n
theorem Pr.coprime {r i : Nat} (hr : Pr r) (h : i % r ≠ 0) : Nat.gcd r i = 1 := by
 rcases hr.2 _ (Nat.gcd_dvd_left r i) with h1 | h1
 ·exact h1
 ·exact absurd (Nat.mod_eq_zero_of_dvd (h1 ▸ Nat.gcd_dvd_right r i)) h
theorem prime_or (n : Nat) (h : 2 ≤ n) : Pr n ∨ ∃ r, Pr r ∧ r ∣ n ∧ r * r ≤ n := by
 induction n using Nat.strongRecOn with
 | _ n ih =>
  by_cases hp : ∀ d, d ∣ n → d = 1 ∨ d = n
  ·exact .inl ⟨h, hp⟩
  ·right
   have ⟨d, hd⟩ := Classical.not_forall.mp hp
   have ⟨hdn, hd⟩ := Classical.not_imp.mp hd
   obtain ⟨e, he⟩ := hdn
   have hd1 : d ≠ 1 := fun h => hd (.inl h)
   have hdn : d ≠ n := fun h => hd (.inr h)
   have hd0 : d ≠ 0 := by rintro rfl; omega
   have he0 : e ≠ 0 := by rintro rfl; omega
   have he1 : e ≠ 1 := by rintro rfl; omega
   have key : ∀ s t : Nat, n = s * t → 2 ≤ s → 2 ≤ t → s ≤ t → ∃ r, Pr r ∧ r ∣ n ∧ r * r ≤ n := by
    intro s t hn hs ht hst
    have hss : s * s ≤ n := hn ▸ Nat.mul_le_mul_left s hst
    have hsn : s < n := by
     have : s * 2 ≤ s * t := Nat.mul_le_mul_left s ht
     omega
    rcases ih s hsn hs with hs' | ⟨r, hr, hrs, hrr⟩
    ·exact ⟨s, hs', ⟨t, hn⟩, hss⟩
    ·exact ⟨r, hr, Nat.dvd_trans hrs ⟨t, hn⟩, Nat.le_trans hrr (by omega)⟩
   rcases Nat.le_total d e with hde | hde
   ·exact key d e he (by omega) (by omega) hde
   ·exact key e d (by rw [he, Nat.mul_comm]) (by omega) (by omega) hde
def prd : List Nat → Nat
 | [] => 1
 | x :: l => x * prd l
theorem prd_perm {l m : List Nat} (h : l.Perm m) : prd l = prd m := by
 induction h with
 | nil => rfl
 | cons x _ ih => show x * prd _ = x * prd _; rw [ih]
 | swap x y l => show y * (x * prd l) = x * (y * prd l); exact Nat.mul_left_comm ..
 | trans _ _ h1 h2 => exact h1.trans h2
theorem prd_map (a r : Nat) (l : List Nat) : prd (l.map fun i => a * i % r) % r = a ^ l.length * prd l % r := by
 induction l with
 | nil => rfl
 | cons x l ih =>
  show (a * x % r) * prd (l.map fun i => a * i % r) % r = a ^ (l.length + 1) * (x * prd l) % r
  rw [Nat.mul_mod, ih, Nat.mod_mod, ← Nat.mul_mod, Nat.pow_succ]
  congr 1
  rw [Nat.mul_mul_mul_comm, Nat.mul_comm a (a ^ l.length)] <;> first | rfl | simp only [Nat.mul_assoc, Nat.mul_comm, Nat.mul_left_comm]
theorem prd_coprime (r : Nat) (l : List Nat) (h : ∀ x ∈ l, Nat.gcd r x = 1) : Nat.gcd r (prd l) = 1 := by
 induction l with
 | nil => exact Nat.gcd_one_right r
 | cons x l ih =>
  have h1 : Nat.Coprime r x := h x (by simp)
  have h2 : Nat.Coprime r (prd l) := ih fun y hy => h y (by simp [hy])
  exact Nat.Coprime.mul_right h1 h2
theorem perm_of {l : List Nat} : ∀ {m : List Nat}, l.Nodup → (∀ x ∈ l, x ∈ m) → m.length ≤ l.length → l.Perm m := by
 induction l with
 | nil =>
  intro m _ _ hl
  have : m = [] := List.length_eq_zero_iff.mp (by simpa using hl)
  rw [this]
 | cons x l ih =>
  intro m hn hs hl
  have hx : x ∈ m := hs x (by simp)
  rw [List.nodup_cons] at hn
  have h1 : l.Perm (m.erase x) := by
   refine ih hn.2 (fun y hy => ?_) ?_
   ·have : y ≠ x := by rintro rfl; exact hn.1 hy
    exact (List.mem_erase_of_ne this).mpr (hs y (by simp [hy]))
   ·rw [List.length_erase_of_mem hx]
    simp only [List.length_cons] at hl
    omega
  exact (List.Perm.cons x h1).trans (List.perm_cons_erase hx).symm
theorem mod_cancel {r a b c : Nat} (hc : Nat.gcd r c = 1) (h : a * c % r = b * c % r) : a % r = b % r := by
 have key : ∀ a b : Nat, a ≤ b → a * c % r = b * c % r → a % r = b % r := by
  intro a b hab h
  have h1 : (b * c - a * c) % r = 0 := Nat.sub_mod_eq_zero_of_mod_eq h.symm
  rw [← Nat.sub_mul] at h1
  have h2 : r ∣ (b - a) := Nat.Coprime.dvd_of_dvd_mul_right hc (Nat.dvd_of_mod_eq_zero h1)
  obtain ⟨k, hk⟩ := h2
  have : b = a + r * k := by omega
  rw [this, Nat.add_mul_mod_self_left]
 rcases Nat.le_total a b with hab | hab
 ·exact key a b hab h
 ·exact (key b a hab h.symm).symm
theorem Pr.fermat {r a : Nat} (hr : Pr r) (ha : a % r ≠ 0) : a ^ (r - 1) % r = 1 := by
 have h2 := hr.1
 have hca : Nat.gcd r a = 1 := hr.coprime ha
 let R := List.range' 1 (r - 1)
 have hR : ∀ x, x ∈ R ↔ 1 ≤ x ∧ x < r := by
  intro x
  simp only [R, List.mem_range'_1]
  omega
 have hlen : R.length = r - 1 := by simp [R]
 have hcop : ∀ x ∈ R, Nat.gcd r x = 1 := by
  intro x hx
  refine hr.coprime ?_
  have ⟨h1, h3⟩ := (hR x).mp hx
  rw [Nat.mod_eq_of_lt h3]
  omega
 have hperm : (R.map fun i => a * i % r).Perm R := by
  refine perm_of ?_ ?_ (by simp)
  ·refine List.pairwise_map.mpr ?_
   have hn : R.Nodup := List.nodup_range'
   refine List.Pairwise.imp_of_mem ?_ hn
   intro x y hx hy hxy he
   have h1 : x % r = y % r := mod_cancel hca (by rwa [Nat.mul_comm x, Nat.mul_comm y])
   rw [Nat.mod_eq_of_lt ((hR x).mp hx).2, Nat.mod_eq_of_lt ((hR y).mp hy).2] at h1
   exact hxy h1
  ·intro y hy
   obtain ⟨x, hx, rfl⟩ := List.mem_map.mp hy
   refine (hR _).mpr ⟨?_, Nat.mod_lt _ (by omega)⟩
   by_cases h0 : a * x % r = 0
   ·have h3 : Nat.gcd r (a * x) = 1 := Nat.Coprime.mul_right hca (hcop x hx)
    have h4 : Nat.gcd r (a * x) = r := Nat.gcd_eq_left (Nat.dvd_of_mod_eq_zero h0)
    omega
   ·omega
 have h3 := prd_map a r R
 rw [prd_perm hperm, hlen] at h3
 have h4 : 1 * prd R % r = a ^ (r - 1) * prd R % r := by rw [Nat.one_mul]; exact h3
 have h5 := mod_cancel (prd_coprime r R hcop) h4
 rw [← h5, Nat.mod_eq_of_lt (by omega)]
theorem pow_gcd {r a : Nat} (hr : 2 ≤ r) (m n : Nat) (hm : a ^ m % r = 1) (hn : a ^ n % r = 1) : a ^ Nat.gcd m n % r = 1 := by
 induction m, n using Nat.gcd.induction with
 | H0 n => simpa using hn
 | H1 m n hpos ih =>
  rw [Nat.gcd_rec]
  refine ih ?_ hm
  have h1 : a ^ n = (a ^ m) ^ (n / m) * a ^ (n % m) := by
   rw [← Nat.pow_mul, ← Nat.pow_add, Nat.div_add_mod]
  have h2 : (a ^ m) ^ (n / m) % r = 1 := by
   rw [Nat.pow_mod, hm, Nat.one_pow]
   exact Nat.mod_eq_of_lt (by omega)
  rw [h1, Nat.mul_mod, h2, Nat.one_mul, Nat.mod_mod] at hn
  exact hn
theorem prime_by {n q m a K : Nat} (hq : Pr q) (hn : n = q * m + 1) (h2 : 2 ≤ n)
  (h1 : a ^ (n - 1) % n = 1) (hg : Nat.gcd (a ^ m % n + n - 1) n = 1)
  (hK : ∀ k, k < K → 1 ≤ k → n % (k * q + 1) ≠ 0) (hb : n < (K * q + 1) * (K * q + 1)) : Pr n := by
 rcases prime_or n h2 with h | ⟨r, hr, hrn, hrr⟩
 ·exact h
 exfalso
 have hr2 := hr.1
 have hmod : ∀ x : Nat, x % n % r = x % r := fun x => Nat.mod_mod_of_dvd x hrn
 have h1r : a ^ (n - 1) % r = 1 := by
  rw [← hmod, h1]
  exact Nat.mod_eq_of_lt (by omega)
 have hm1 : a ^ m % r ≠ 1 := by
  intro h
  have e1 : r ∣ (a ^ m % n + n - 1) := by
   obtain ⟨k, hk⟩ := hrn
   have e2 : a ^ m % n % r = 1 := by rw [hmod, h]
   have e3 : a ^ m % n = 1 + r * (a ^ m % n / r) := by
    have := Nat.mod_add_div (a ^ m % n) r
    omega
   refine ⟨a ^ m % n / r + k, ?_⟩
   rw [Nat.mul_add, ← hk]
   omega
  have e4 := Nat.dvd_gcd e1 hrn
  rw [hg] at e4
  have := Nat.le_of_dvd (by decide) e4
  omega
 have ha0 : a % r ≠ 0 := by
  intro h
  have : a ^ (n - 1) % r = 0 := by
   have hne : n - 1 = (n - 2) + 1 := by omega
   rw [hne, Nat.pow_succ, Nat.mul_mod, h, Nat.mul_zero, Nat.zero_mod]
  omega
 have hf := hr.fermat ha0
 have hqr : q ∣ r - 1 := by
  by_cases h : (r - 1) % q = 0
  ·exact Nat.dvd_of_mod_eq_zero h
  ·exfalso
   have hc : Nat.gcd q (r - 1) = 1 := hq.coprime h
   have h3 := pow_gcd hr2 (r - 1) (n - 1) hf h1r
   have h4 : Nat.gcd (r - 1) (n - 1) ∣ m := by
    have e1 : Nat.gcd (r - 1) (n - 1) ∣ q * m := by
     have := Nat.gcd_dvd_right (r - 1) (n - 1)
     have e2 : n - 1 = q * m := by omega
     rwa [e2] at this ⊢
    have e3 : Nat.Coprime (Nat.gcd (r - 1) (n - 1)) q := by
     have e4 : Nat.gcd (Nat.gcd (r - 1) (n - 1)) q ∣ Nat.gcd q (r - 1) :=
      Nat.dvd_gcd (Nat.gcd_dvd_right ..) (Nat.dvd_trans (Nat.gcd_dvd_left ..) (Nat.gcd_dvd_left ..))
     rw [hc] at e4
     exact Nat.dvd_one.mp e4
    exact Nat.Coprime.dvd_of_dvd_mul_left e3 e1
   obtain ⟨c, hc⟩ := h4
   refine hm1 ?_
   rw [hc, Nat.pow_mul, Nat.pow_mod, h3, Nat.one_pow]
   exact Nat.mod_eq_of_lt (by omega)
 obtain ⟨k, hk⟩ := hqr
 have hrk : r = k * q + 1 := by
  rw [Nat.mul_comm k q, ← hk]
  omega
 have hk1 : 1 ≤ k := by
  rcases Nat.eq_zero_or_pos k with h | h
  ·subst h; omega
  ·exact h
 have hkK : k < K := by
  rcases Nat.lt_or_ge k K with h | h
  ·exact h
  ·exfalso
   have e1 : K * q + 1 ≤ r := by
    rw [hrk]
    exact Nat.add_le_add_right (Nat.mul_le_mul_right q h) 1
   have e2 := Nat.mul_le_mul e1 e1
   omega
 refine hK k hkK hk1 ?_
 rw [← hrk]
 exact Nat.mod_eq_zero_of_dvd hrn
def pm (n : Nat) : Nat → Nat → Nat → Nat
 | 0, _, _ => 1 % n
 | f + 1, a, e => (if e % 2 = 1 then a else 1) * pm n f (a * a % n) (e / 2) % n
theorem pm_eq (n : Nat) : ∀ f a e, e < 2 ^ f → pm n f a e = a ^ e % n := by
 intro f
 induction f with
 | zero =>
  intro a e h
  have : e = 0 := by simpa using h
  subst this
  rfl
 | succ f ih =>
  intro a e h
  show (if e % 2 = 1 then a else 1) * pm n f (a * a % n) (e / 2) % n = _
  rw [ih _ _ (by rw [Nat.pow_succ] at h; omega)]
  have h1 : (a * a % n) ^ (e / 2) % n = a ^ (2 * (e / 2)) % n := by
   rw [← Nat.pow_mod, Nat.pow_mul, Nat.pow_two]
  have h2 : e % 2 + 2 * (e / 2) = e := Nat.mod_add_div e 2
  rw [h1]
  by_cases h3 : e % 2 = 1
  ·rw [if_pos h3, Nat.mul_mod, Nat.mod_mod, ← Nat.mul_mod, ← Nat.pow_succ']
   congr 2
   omega
  ·rw [if_neg h3, Nat.one_mul, Nat.mod_mod]
   congr 2
   omega
def noDiv (n : Nat) : Nat → Bool
 | 0 => true
 | k + 1 => (n % (k + 2) != 0) && noDiv n k
theorem noDiv_spec (n : Nat) : ∀ K, noDiv n K = true → ∀ k, k < K → n % (k + 2) ≠ 0 := by
 intro K
 induction K with
 | zero => intro _ k hk; omega
 | succ K ih =>
  intro h k hk
  have h : ((n % (K + 2) != 0) && noDiv n K) = true := h
  rw [Bool.and_eq_true] at h
  rcases Nat.lt_or_ge k K with h1 | h1
  ·exact ih h.2 k h1
  ·have : k = K := by omega
   subst this
   simpa using h.1
theorem prime_small {n : Nat} (K : Nat) (h2 : 2 ≤ n) (h : noDiv n K = true) (hb : n < (K + 2) * (K + 2)) : Pr n := by
 rcases prime_or n h2 with h' | ⟨r, hr, hrn, hrr⟩
 ·exact h'
 exfalso
 have hr2 := hr.1
 have hk : r - 2 < K := by
  rcases Nat.lt_or_ge (r - 2) K with h1 | h1
  ·exact h1
  ·exfalso
   have e1 : K + 2 ≤ r := by omega
   have := Nat.mul_le_mul e1 e1
   omega
 have := noDiv_spec n K h (r - 2) hk
 rw [Nat.sub_add_cancel hr2] at this
 exact this (Nat.mod_eq_zero_of_dvd hrn)
def tst (n q m a K f : Nat) : Bool :=
 n == q * m + 1 && Nat.ble 2 n && pm n f a (n - 1) == 1 && Nat.gcd (pm n f a m + n - 1) n == 1
  && Nat.ble (n + 1) ((K * q + 1) * (K * q + 1)) && Nat.ble (n + 1) (2 ^ f)
def nok (n q : Nat) : Nat → Bool
 | 0 => true
 | k + 1 => (k == 0 || n % (k * q + 1) != 0) && nok n q k
theorem nok_spec (n q : Nat) : ∀ K, nok n q K = true → ∀ k, k < K → 1 ≤ k → n % (k * q + 1) ≠ 0 := by
 intro K
 induction K with
 | zero => intro _ k hk; omega
 | succ K ih =>
  intro h k hk h1
  have h : ((K == 0 || n % (K * q + 1) != 0) && nok n q K) = true := h
  rw [Bool.and_eq_true] at h
  rcases Nat.lt_or_ge k K with h2 | h2
  ·exact ih h.2 k h2 h1
  ·have : k = K := by omega
   subst this
   have h3 := h.1
   rw [Bool.or_eq_true] at h3
   rcases h3 with h3 | h3
   ·have : k = 0 := by simpa using h3
    omega
   ·simpa using h3
theorem prime_tst {n q : Nat} (m a K f : Nat) (hq : Pr q) (ht : tst n q m a K f = true) (hk : nok n q K = true) : Pr n := by
 unfold tst at ht
 simp only [Bool.and_eq_true, beq_iff_eq, Nat.ble_eq] at ht
 obtain ⟨⟨⟨⟨⟨hn, h2⟩, h1⟩, hg⟩, hb⟩, hf⟩ := ht
 have hm : m < 2 ^ f := by
  have e1 : 1 * m ≤ q * m := Nat.mul_le_mul_right m (by have := hq.1; omega)
  omega
 rw [pm_eq n f a _ (by omega)] at h1
 rw [pm_eq n f a m hm] at hg
 exact prime_by hq hn h2 h1 hg (nok_spec n q K hk) hb
theorem pr4 : Pr 8574133 := prime_small 2930 (by decide) (by decide +kernel) (by decide)
theorem pr3 : Pr 1919519569386763 := prime_tst 223873314 2 6 51 pr4 (by decide +kernel) (by decide +kernel)
theorem pr2 : Pr 75445702479781427272750846543864801 := prime_tst 39304471641247389600 2 144 116 pr3 (by decide +kernel) (by decide +kernel)
theorem pr1 : Pr 74058212732561358302231226437062788676166966415465897661863160754340907 := prime_tst 981609426360740691344999861639072106 2 4 236 pr2 (by decide +kernel) (by decide +kernel)
theorem prP : Pr 57896044618658097711785492504343953926634992332820282019728792003956564819949 := prime_tst 781764 2 1 255 pr1 (by decide +kernel) (by decide +kernel)
def M64 (k : Nat) : Nat := 2 ^ (64 * k)
theorem M64_add (j k : Nat) : M64 (j + k) = M64 j * M64 k := by
 unfold M64
 rw [Nat.mul_add, Nat.pow_add]
theorem M64_pos (k : Nat) : 0 < M64 k := Nat.two_pow_pos _
theorem M64_succ (k : Nat) : M64 (k + 1) = M64 k * 18446744073709551616 := by
 show 2 ^ (64 * (k + 1)) = 2 ^ (64 * k) * 18446744073709551616
 rw [Nat.mul_add, Nat.pow_add]
def wd (N k : Nat) : Nat := N / M64 k % 18446744073709551616
theorem wd_lt (N k : Nat) : wd N k < 18446744073709551616 := Nat.mod_lt _ (by decide)
theorem mod_succ (N k : Nat) : N % M64 (k + 1) = N % M64 k + M64 k * wd N k := by
 rw [M64_succ, Nat.mod_mul]
 rfl
theorem wd_of_lt {N k : Nat} (h : N < M64 k) : wd N k = 0 := by
 unfold wd
 rw [Nat.div_eq_of_lt h]
theorem M64_mono {j k : Nat} (h : j ≤ k) : M64 j ≤ M64 k := Nat.pow_le_pow_right (by decide) (by omega)
theorem wd_of_lt' {N j k : Nat} (h : N < M64 j) (hj : j ≤ k) : wd N k = 0 := wd_of_lt (Nat.lt_of_lt_of_le h (M64_mono hj))
theorem wd_add_high (N x j k : Nat) (h : j < k) : wd (N + x * M64 k) j = wd N j := by
 unfold wd
 have e : M64 k = M64 j * (18446744073709551616 * M64 (k - j - 1)) := by
  rw [← Nat.mul_assoc, ← M64_succ]
  show 2 ^ (64 * k) = 2 ^ (64 * (j + 1)) * 2 ^ (64 * (k - j - 1))
  rw [← Nat.pow_add]
  congr 1
  omega
 rw [e, show N + x * (M64 j * (18446744073709551616 * M64 (k - j - 1))) = N + M64 j * (18446744073709551616 * (x * M64 (k - j - 1))) by rw [Nat.mul_left_comm x, Nat.mul_left_comm x], Nat.add_mul_div_left _ _ (M64_pos j), Nat.add_mul_mod_self_left]
theorem div_add_low {N x k j : Nat} (hN : N < M64 k) (hj : k ≤ j) : (N + x * M64 k) / M64 j = x * M64 k / M64 j := by
 have e : M64 j = M64 k * M64 (j - k) := by
  show 2 ^ (64 * j) = 2 ^ (64 * k) * 2 ^ (64 * (j - k))
  rw [← Nat.pow_add]
  congr 1
  omega
 rw [e, ← Nat.div_div_eq_div_mul, ← Nat.div_div_eq_div_mul, Nat.add_mul_div_right _ _ (M64_pos k), Nat.div_eq_of_lt hN, Nat.zero_add, Nat.mul_div_cancel _ (M64_pos k)]
theorem wd_top {N x k : Nat} (hN : N < M64 k) (hx : x < 18446744073709551616) : wd (N + x * M64 k) k = x := by
 unfold wd
 rw [Nat.add_mul_div_right _ _ (M64_pos k), Nat.div_eq_of_lt hN, Nat.zero_add, Nat.mod_eq_of_lt hx]
theorem top_lt {N x k : Nat} (hN : N < M64 k) (hx : x < 18446744073709551616) : N + x * M64 k < M64 (k + 1) := by
 rw [M64_succ, Nat.mul_comm]
 have h : (x + 1) * M64 k ≤ 18446744073709551616 * M64 k := Nat.mul_le_mul_right _ hx
 rw [Nat.mul_comm (M64 k)]
 rw [Nat.add_mul] at h
 omega
def cry (A B k : Nat) : Nat := (A % M64 k + B % M64 k) / M64 k
theorem cry_le (A B k : Nat) : cry A B k ≤ 1 := by
 unfold cry
 have h1 := Nat.mod_lt A (M64_pos k)
 have h2 := Nat.mod_lt B (M64_pos k)
 have : (A % M64 k + B % M64 k) / M64 k < 2 := (Nat.div_lt_iff_lt_mul (M64_pos k)).2 (by omega)
 omega
theorem cry_zero (A B : Nat) : cry A B 0 = 0 := by
 unfold cry
 have e : M64 0 = 1 := rfl
 rw [e, Nat.mod_one, Nat.mod_one]
theorem cry_succ (A B k : Nat) : cry A B (k + 1) = (wd A k + wd B k + cry A B k) / 18446744073709551616 := by
 have h : cry A B (k + 1) = (A % M64 k + M64 k * wd A k + (B % M64 k + M64 k * wd B k)) / (M64 k * 18446744073709551616) := by
  unfold cry
  rw [mod_succ, mod_succ, M64_succ]
 rw [h, ← Nat.div_div_eq_div_mul]
 congr 1
 unfold cry
 rw [show A % M64 k + M64 k * wd A k + (B % M64 k + M64 k * wd B k) = A % M64 k + B % M64 k + M64 k * (wd A k + wd B k) by rw [Nat.mul_add]; omega, Nat.add_mul_div_left _ _ (M64_pos k)]
 omega
theorem sum_wd (A B k : Nat) : wd (A + B) k = (wd A k + wd B k + cry A B k) % 18446744073709551616 := by
 have e : (A + B) / M64 k = cry A B k + A / M64 k + B / M64 k := by
  have h1 : A + B = A % M64 k + B % M64 k + M64 k * (A / M64 k + B / M64 k) := by
   rw [Nat.mul_add]
   have := Nat.mod_add_div A (M64 k)
   have := Nat.mod_add_div B (M64 k)
   omega
  rw [h1, Nat.add_mul_div_left _ _ (M64_pos k)]
  unfold cry
  omega
 unfold wd
 rw [e]
 omega
def brw (A B k : Nat) : Nat := if A % M64 k < B % M64 k then 1 else 0
theorem brw_le (A B k : Nat) : brw A B k ≤ 1 := by unfold brw; split <;> omega
theorem brw_zero (A B : Nat) : brw A B 0 = 0 := by
 unfold brw
 have e : M64 0 = 1 := rfl
 rw [e, Nat.mod_one, Nat.mod_one, if_neg (by omega)]
theorem lt_lex {m a b x y : Nat} (ha : a < m) (hb : b < m) : a + m * x < b + m * y ↔ x < y ∨ x = y ∧ a < b := by
 constructor
 ·intro h
  by_cases h1 : x < y
  ·exact .inl h1
  ·by_cases h2 : x = y
   ·subst h2; exact .inr ⟨rfl, by omega⟩
   ·exfalso
    have h3 : y + 1 ≤ x := by omega
    have h4 := Nat.mul_le_mul_left m h3
    rw [Nat.mul_add, Nat.mul_one] at h4
    omega
 ·rintro (h | ⟨rfl, h⟩)
  ·have h4 := Nat.mul_le_mul_left m (show x + 1 ≤ y from h)
   rw [Nat.mul_add, Nat.mul_one] at h4
   omega
  ·omega
theorem brw_succ (A B k : Nat) : brw A B (k + 1) = if wd A k < wd B k + brw A B k then 1 else 0 := by
 have h : (A % M64 (k + 1) < B % M64 (k + 1)) ↔ (wd A k < wd B k + brw A B k) := by
  rw [mod_succ, mod_succ, lt_lex (Nat.mod_lt A (M64_pos k)) (Nat.mod_lt B (M64_pos k))]
  unfold brw
  split <;> omega
 show (if A % M64 (k + 1) < B % M64 (k + 1) then 1 else 0) = _
 simp only [h]
theorem dif_wd (A B D k : Nat) (h : D + B = A + M64 8) (hk : k < 8) : wd D k = (wd A k + 18446744073709551616 - wd B k - brw A B k) % 18446744073709551616 := by
 have hs := sum_wd D B k
 have hc : cry D B k = brw A B k := by
  have h1 := congrArg (· % M64 k) h
  have e8 : M64 8 = M64 k * M64 (8 - k) := by
   rw [← M64_add]
   congr 1
   omega
  simp only [e8, Nat.add_mul_mod_self_left] at h1
  rw [Nat.add_mod] at h1
  unfold cry brw
  have ha := Nat.mod_lt D (M64_pos k)
  have hb := Nat.mod_lt B (M64_pos k)
  generalize D % M64 k = d at *
  generalize B % M64 k = b at *
  generalize A % M64 k = a at *
  generalize M64 k = m at *
  by_cases hlt : d + b < m
  ·rw [Nat.mod_eq_of_lt hlt] at h1
   rw [Nat.div_eq_of_lt hlt, if_neg (by omega)]
  ·have e : d + b = (d + b - m) + m := by omega
   have : (d + b) % m = d + b - m := by rw [e, Nat.add_mod_right, Nat.mod_eq_of_lt (by omega)]; omega
   rw [this] at h1
   have e2 : (d + b) / m = 1 := by
    rw [e, Nat.add_div_right _ (by omega), Nat.div_eq_of_lt (by omega)]
   rw [e2, if_pos (by omega)]
 have hw : wd (D + B) k = wd A k := by
  rw [h]
  have := wd_add_high A 1 k 8 hk
  simpa using this
 rw [hw, hc] at hs
 have l1 := wd_lt D k
 have l2 := wd_lt A k
 have l3 := wd_lt B k
 have l4 := brw_le A B k
 omega
def putw (V k x : Nat) : Nat := V % M64 k + x * M64 k + V / M64 (k + 1) * M64 (k + 1)
theorem split_at (V k : Nat) : V = V % M64 k + wd V k * M64 k + V / M64 (k + 1) * M64 (k + 1) := by
 have h1 := Nat.mod_add_div V (M64 (k + 1))
 rw [mod_succ, Nat.mul_comm (M64 k), Nat.mul_comm (M64 (k + 1))] at h1
 exact h1.symm
theorem putw_add (V k x : Nat) : putw V k x + wd V k * M64 k = V + x * M64 k := by
 have h := split_at V k
 unfold putw
 omega
theorem wd_putw (V k x j : Nat) (hx : x < 18446744073709551616) : wd (putw V k x) j = if j = k then x else wd V j := by
 have l1 : V % M64 k < M64 k := Nat.mod_lt _ (M64_pos k)
 by_cases h1 : j = k
 ·subst h1
  rw [if_pos rfl]
  unfold putw
  rw [wd_add_high _ _ _ _ (by omega)]
  exact wd_top l1 hx
 ·rw [if_neg h1]
  by_cases h2 : j < k
  ·conv => rhs; rw [split_at V k]
   unfold putw
   rw [wd_add_high _ _ _ _ (by omega), wd_add_high _ _ _ _ h2, wd_add_high _ _ _ _ (by omega), wd_add_high _ _ _ _ h2]
  ·have l2 := wd_lt V k
   conv => rhs; rw [split_at V k]
   unfold putw
   generalize wd V k = y at *
   unfold wd
   rw [div_add_low (top_lt l1 hx) (by omega), div_add_low (top_lt l1 l2) (by omega)]
theorem putw_lt {V k x n : Nat} (hV : V < M64 n) (hk : k < n) (hx : x < 18446744073709551616) : putw V k x < M64 n := by
 have l1 : V % M64 k < M64 k := Nat.mod_lt _ (M64_pos k)
 have l2 := top_lt l1 hx
 unfold putw
 have e : M64 n = M64 (k + 1) * M64 (n - (k + 1)) := by
  show 2 ^ (64 * n) = 2 ^ (64 * (k + 1)) * 2 ^ (64 * (n - (k + 1)))
  rw [← Nat.pow_add]
  congr 1
  omega
 have h3 : V / M64 (k + 1) < M64 (n - (k + 1)) := (Nat.div_lt_iff_lt_mul (M64_pos _)).2 (by rw [Nat.mul_comm, ← e]; exact hV)
 have h4 := Nat.mul_le_mul_right (M64 (k + 1)) (show V / M64 (k + 1) + 1 ≤ _ from h3)
 rw [Nat.add_mul, Nat.mul_comm (M64 (n - (k + 1))), ← e] at h4
 omega
def lev : List Nat → Nat
 | [] => 0
 | c :: l => c + 256 * lev l
theorem lev_append (l m : List Nat) : lev (l ++ m) = lev l + 256 ^ l.length * lev m := by
 induction l with
 | nil => simp [lev]
 | cons c l ih => simp only [List.cons_append, lev, ih, List.length_cons, Nat.pow_succ]; rw [Nat.mul_add, Nat.mul_comm (256 ^ l.length) 256, Nat.mul_assoc]; omega
theorem lev_lt {l : List Nat} (h : ∀ c ∈ l, c < 256) : lev l < 256 ^ l.length := by
 induction l with
 | nil => simp [lev]
 | cons c l ih =>
  have h1 := ih (fun c hc => h c (List.mem_cons_of_mem _ hc))
  have h2 := h c (List.mem_cons_self ..)
  simp only [lev, List.length_cons, Nat.pow_succ]
  omega
theorem pow256 (k : Nat) : 256 ^ k = 2 ^ (8 * k) := by rw [show (256 : Nat) = 2 ^ 8 from rfl, ← Nat.pow_mul]
theorem wd_byte {N k c : Nat} (hN : N < 256 ^ k) (hc : c < 256) (j : Nat) : wd (N + c * 256 ^ k) j = if j = k / 8 then wd N j ||| c * 2 ^ (8 * (k % 8)) else wd N j := by
 have e : 256 ^ k = 2 ^ (8 * (k % 8)) * M64 (k / 8) := by
  rw [pow256]
  show 2 ^ (8 * k) = 2 ^ (8 * (k % 8)) * 2 ^ (64 * (k / 8))
  rw [← Nat.pow_add]
  congr 1
  omega
 have hq : N / M64 (k / 8) < 2 ^ (8 * (k % 8)) := (Nat.div_lt_iff_lt_mul (M64_pos _)).2 (by rw [← e]; exact hN)
 have h7 : 2 ^ (8 * (k % 8)) ≤ 2 ^ 56 := Nat.pow_le_pow_right (by decide) (by omega)
 have hw : wd N (k / 8) = N / M64 (k / 8) := Nat.mod_eq_of_lt (by omega)
 have hx : c * 2 ^ (8 * (k % 8)) + N / M64 (k / 8) < 18446744073709551616 := by
  have h1 : (c + 1) * 2 ^ (8 * (k % 8)) ≤ 256 * 2 ^ 56 := Nat.mul_le_mul hc h7
  rw [Nat.add_mul] at h1
  omega
 rw [e, ← Nat.mul_assoc]
 by_cases h1 : j = k / 8
 ·subst h1
  rw [if_pos rfl, hw]
  unfold wd
  rw [Nat.add_mul_div_right _ _ (M64_pos _), Nat.mod_eq_of_lt (by omega), Nat.add_comm, Nat.mul_comm c, Nat.two_pow_add_eq_or_of_lt hq, Nat.or_comm]
 ·rw [if_neg h1]
  by_cases h2 : j < k / 8
  ·exact wd_add_high _ _ _ _ h2
  ·have h3 : k / 8 + 1 ≤ j := by omega
   rw [wd_of_lt' (N := N) (j := k / 8 + 1) (Nat.lt_of_lt_of_le hN (by rw [e, M64_succ, Nat.mul_comm]; exact Nat.mul_le_mul_left _ (by omega))) h3]
   refine wd_of_lt' (j := k / 8 + 1) ?_ h3
   have hN2 : N < 2 ^ (8 * (k % 8)) * M64 (k / 8) := by rw [← e]; exact hN
   have h4 : (c + 1) * 2 ^ (8 * (k % 8)) * M64 (k / 8) ≤ 18446744073709551616 * M64 (k / 8) := Nat.mul_le_mul_right _ (by
    have h1 : (c + 1) * 2 ^ (8 * (k % 8)) ≤ 256 * 2 ^ 56 := Nat.mul_le_mul hc h7
    omega)
   rw [M64_succ, Nat.mul_comm (M64 (k / 8))]
   rw [Nat.add_mul, Nat.add_mul, Nat.one_mul] at h4
   omega
def byt (N i : Nat) : Nat := N / 2 ^ (8 * i) % 256
theorem byt_lt (N i : Nat) : byt N i < 256 := Nat.mod_lt _ (by decide)
theorem wd_byt (N i : Nat) : wd N (i / 8) / 2 ^ (8 * (i % 8)) % 256 = byt N i := by
 unfold wd byt
 have e : (18446744073709551616 : Nat) = 2 ^ (8 * (i % 8)) * (256 * 2 ^ (56 - 8 * (i % 8))) := by
  rw [show (256 : Nat) = 2 ^ 8 from rfl, ← Nat.pow_add, ← Nat.pow_add, show 8 * (i % 8) + (8 + (56 - 8 * (i % 8))) = 64 by omega]
 rw [e, Nat.mod_mul_right_div_self, Nat.mod_mul_right_mod, Nat.div_div_eq_div_mul]
 congr 2
 show 2 ^ (64 * (i / 8)) * 2 ^ (8 * (i % 8)) = _
 rw [← Nat.pow_add]
 congr 1
 omega
theorem lev_byts (N n : Nat) : lev ((List.range n).map (byt N)) = N % 256 ^ n := by
 induction n with
 | zero => simp [lev, Nat.mod_one]
 | succ n ih =>
  rw [List.range_succ, List.map_append, lev_append, ih]
  simp only [List.length_map, List.length_range, List.map_cons, List.map_nil, lev, Nat.mul_zero, Nat.add_zero]
  rw [Nat.pow_succ, Nat.mod_mul]
  unfold byt
  rw [← pow256]
theorem mul_step {a b o v high low one c : Nat} (ha : a < 18446744073709551616) (hb : b < 18446744073709551616) (ho : o < 18446744073709551616) (hv : v < 18446744073709551616)
  (hhi : high = a * b / 18446744073709551616) (hlo : low = a * b % 18446744073709551616) (h1 : one = (low + v) / 18446744073709551616) (hc : c = ((low + v) % 18446744073709551616 + o) / 18446744073709551616) :
  c + high + one < 18446744073709551616 ∧ (((low + v) % 18446744073709551616 + o) % 18446744073709551616) + (c + high + one) * 18446744073709551616 = a * b + v + o := by
 have hp : a * b ≤ 18446744073709551615 * 18446744073709551615 := Nat.mul_le_mul (by omega) (by omega)
 generalize a * b = p at *
 subst hhi hlo h1 hc
 omega
theorem mm {P a a' b b' : Nat} (h : a % P = a' % P) (h' : b % P = b' % P) : a * b % P = a' * b' % P := by
 rw [Nat.mul_mod, h, h', ← Nat.mul_mod]
theorem mp {P a a' : Nat} (n : Nat) (h : a % P = a' % P) : a ^ n % P = a' ^ n % P := by
 rw [Nat.pow_mod, h, ← Nat.pow_mod]
theorem Pr.two {P : Nat} (h : Pr P) : 2 ≤ P := h.1
theorem Pr.mul {P a b : Nat} (hP : Pr P) (h : a * b % P = 0) : a % P = 0 ∨ b % P = 0 := by
 by_cases ha : a % P = 0
 ·exact .inl ha
 ·exact .inr (Nat.mod_eq_zero_of_dvd (Nat.Coprime.dvd_of_dvd_mul_left (hP.coprime ha) (Nat.dvd_of_mod_eq_zero h)))
theorem inv_mul {P v : Nat} (hP : Pr P) (hv : v % P ≠ 0) : v * v ^ (P - 2) % P = 1 := by
 have h2 := hP.1
 rw [← Nat.pow_succ', show (P - 2).succ = P - 1 by omega]
 exact hP.fermat hv
theorem inv_zero {P v w : Nat} (hv : v % P = 0) : v * w % P = 0 := by
 rw [Nat.mul_mod, hv, Nat.zero_mul, Nat.zero_mod]
theorem quo_mul {P u v : Nat} (hP : Pr P) (hv : v % P ≠ 0) : u * v ^ (P - 2) * v % P = u % P := by
 rw [Nat.mul_assoc, Nat.mul_comm (v ^ (P - 2)), Nat.mul_mod, inv_mul hP hv, Nat.mul_one, Nat.mod_mod]
theorem cand {P E u v q : Nat} (hP : Pr P) (hE : P = 8 * E + 5) (hv : v % P ≠ 0) (hq : q * v % P = u % P) :
  u * v ^ 3 * (u * v ^ 7) ^ E % P = q ^ (E + 1) % P := by
 have h1 : u * v ^ 3 * (u * v ^ 7) ^ E % P = q * v * v ^ 3 * (q * v * v ^ 7) ^ E % P :=
  mm (mm hq.symm rfl) (mp E (mm hq.symm rfl))
 have h2 : q * v * v ^ 3 * (q * v * v ^ 7) ^ E = q ^ (E + 1) * v ^ (P - 1) := by
  have e1 : q * v * v ^ 3 = q * v ^ 4 := by rw [Nat.mul_assoc, ← Nat.pow_succ']
  have e2 : q * v * v ^ 7 = q * v ^ 8 := by rw [Nat.mul_assoc, ← Nat.pow_succ']
  have e3 : P - 1 = 4 + 8 * E := by omega
  rw [e1, e2, e3, Nat.mul_pow, ← Nat.pow_mul, Nat.pow_add v, Nat.pow_add q, Nat.pow_one, Nat.mul_comm (q ^ E) q]
  exact Nat.mul_mul_mul_comm ..
 rw [h1, h2, Nat.mul_mod, hP.fermat hv, Nat.mul_one, Nat.mod_mod]
theorem fits_iff {P u v q r : Nat} (hP : Pr P) (hv : v % P ≠ 0) (hq : q * v % P = u % P) :
  r * r * v % P = u % P ↔ r * r % P = q % P := by
 constructor
 ·intro h
  exact mod_cancel (hP.coprime hv) (h.trans hq.symm)
 ·intro h
  exact (mm h rfl).trans hq
theorem sq_eq {P r u : Nat} (hP : Pr P) (h : r * r % P = u * u % P) : r % P = u % P ∨ (r + u) % P = 0 := by
 have key : ∀ a b : Nat, b ≤ a → a * a % P = b * b % P → a % P = b % P ∨ (a + b) % P = 0 := by
  intro a b hab h
  have h1 : (a * a - b * b) % P = 0 := Nat.sub_mod_eq_zero_of_mod_eq h
  have h2 : a * a - b * b = (a - b) * (a + b) := by
   obtain ⟨c, rfl⟩ : ∃ c, a = b + c := ⟨a - b, by omega⟩
   have : (b + c) * (b + c) = b * b + c * (b + c + b) := by grind
   rw [this, Nat.add_sub_cancel_left, Nat.add_sub_cancel_left]
  rw [h2] at h1
  rcases hP.mul h1 with h3 | h3
  ·left
   obtain ⟨k, hk⟩ := Nat.dvd_of_mod_eq_zero h3
   have : a = b + P * k := by omega
   rw [this, Nat.add_mul_mod_self_left]
  ·exact .inr h3
 rcases Nat.le_total u r with h1 | h1
 ·exact key r u h1 h
 ·rcases key u r h1 h.symm with h2 | h2
  ·exact .inl h2.symm
  ·exact .inr (by rwa [Nat.add_comm])
theorem half_pow {P h u : Nat} (hP : Pr P) (hh : P = 2 * h + 1) (hu : u % P ≠ 0) : u ^ h % P = 1 ∨ (u ^ h + 1) % P = 0 := by
 have h2 := hP.1
 have h1 : u ^ h * u ^ h % P = 1 * 1 % P := by
  rw [← Nat.pow_add, show h + h = P - 1 by omega, hP.fermat hu, Nat.mod_eq_of_lt (by omega)]
 rcases sq_eq hP h1 with h3 | h3
 ·exact .inl (by rw [h3, Nat.mod_eq_of_lt (by omega)])
 ·exact .inr h3
theorem sq_root {P E u j q : Nat} (hP : Pr P) (hE : P = 8 * E + 5) (hj : (j * j + 1) % P = 0) (hq : q % P = u * u % P) :
  q ^ (E + 1) * q ^ (E + 1) % P = q % P ∨ q ^ (E + 1) * j * (q ^ (E + 1) * j) % P = q % P := by
 have h2 := hP.1
 have hr : q ^ (E + 1) * q ^ (E + 1) % P = u ^ (4 * E + 2) * (u * u) % P := by
  have h1 := mp (E + 1) hq
  refine (mm h1 h1).trans ?_
  have e1 : (u * u) ^ (E + 1) * (u * u) ^ (E + 1) = u ^ (4 * E + 2) * (u * u) := by
   rw [← Nat.pow_two u, ← Nat.pow_mul, ← Nat.pow_add, ← Nat.pow_add]
   congr 1
   omega
  rw [e1]
 by_cases hu : u % P = 0
 ·left
  have h0 : u * u % P = 0 := inv_zero hu
  rw [hr, hq, Nat.mul_mod, h0, Nat.mul_zero, Nat.zero_mod]
 ·rcases half_pow (h := 4 * E + 2) hP (by omega) hu with h1 | h1
  ·left
   rw [hr, hq, Nat.mul_mod, h1, Nat.one_mul, Nat.mod_mod]
  ·right
   have e1 : q ^ (E + 1) * j * (q ^ (E + 1) * j) % P = u ^ (4 * E + 2) * (u * u) * (j * j) % P := by
    rw [Nat.mul_mul_mul_comm]
    exact mm hr rfl
   have e2 : u ^ (4 * E + 2) * (u * u) * (j * j) + ((j * j + 1) * (u * u)) = (u ^ (4 * E + 2) + 1) * (u * u) * (j * j) + u * u := by grind
   have e3 : (u ^ (4 * E + 2) * (u * u) * (j * j) + ((j * j + 1) * (u * u))) % P = u ^ (4 * E + 2) * (u * u) * (j * j) % P := by
    rw [Nat.add_mod, inv_zero hj, Nat.add_zero, Nat.mod_mod]
   have e4 : ((u ^ (4 * E + 2) + 1) * (u * u) * (j * j) + u * u) % P = u * u % P := by
    rw [Nat.add_mod, Nat.mul_assoc, inv_zero h1, Nat.zero_add, Nat.mod_mod]
   rw [e1, hq, ← e3, e2, e4]
theorem rt_minus (e : Nat) (he : e = 14474011154664524427946373126085988481658748083205070504932198000989141204987) :
  2 ^ e % 57896044618658097711785492504343953926634992332820282019728792003956564819949 = 19681161376707505956807079304988542015446066515923890162744021073123829784752 := by
 rw [← pm_eq _ 255 2 e (by rw [he]; decide), he]
 decide +kernel
theorem rt_sq : (19681161376707505956807079304988542015446066515923890162744021073123829784752 * 19681161376707505956807079304988542015446066515923890162744021073123829784752 + 1) % 57896044618658097711785492504343953926634992332820282019728792003956564819949 = 0 := by decide
section
section
def hn (S a b c d e : Nat) : Nat := a + S * (b + S * (c + S * (d + S * e)))
def V5 (a b c d e : Nat) : Nat := hn 2251799813685248 a b c d e
theorem V5_lin (a b c d e : Nat) : V5 a b c d e = a + 2251799813685248 * b + 5070602400912917605986812821504 * c
  + 11417981541647679048466287755595961091061972992 * d + 25711008708143844408671393477458601640355247900524685364822016 * e := by
 unfold V5 hn
 omega
theorem crr (a b c d e : Nat) :
  V5 (a % 2251799813685248 + e / 2251799813685248 * 19) (b % 2251799813685248 + a / 2251799813685248) (c % 2251799813685248 + b / 2251799813685248) (d % 2251799813685248 + c / 2251799813685248) (e % 2251799813685248 + d / 2251799813685248) + 57896044618658097711785492504343953926634992332820282019728792003956564819949 * (e / 2251799813685248) = V5 a b c d e := by
 rw [V5_lin, V5_lin]
 omega
theorem crr_mod (a b c d e : Nat) :
  V5 (a % 2251799813685248 + e / 2251799813685248 * 19) (b % 2251799813685248 + a / 2251799813685248) (c % 2251799813685248 + b / 2251799813685248) (d % 2251799813685248 + c / 2251799813685248) (e % 2251799813685248 + d / 2251799813685248) % 57896044618658097711785492504343953926634992332820282019728792003956564819949 = V5 a b c d e % 57896044618658097711785492504343953926634992332820282019728792003956564819949 := by
 rw [← crr a b c d e, Nat.add_mul_mod_self_left]
theorem hn_mul (S a0 a1 a2 a3 a4 b0 b1 b2 b3 b4 : Nat) :
  hn S a0 a1 a2 a3 a4 * hn S b0 b1 b2 b3 b4
   = hn S (a0*b0) (a0*b1 + a1*b0) (a0*b2 + a1*b1 + a2*b0) (a0*b3 + a1*b2 + a2*b1 + a3*b0) (a0*b4 + a1*b3 + a2*b2 + a3*b1 + a4*b0)
    + S * (S * (S * (S * S))) * hn S (a1*b4 + a2*b3 + a3*b2 + a4*b1) (a2*b4 + a3*b3 + a4*b2) (a3*b4 + a4*b3) (a4*b4) 0 := by
 unfold hn
 grind
theorem hn_add (S f t0 t1 t2 t3 t4 h0 h1 h2 h3 : Nat) :
  hn S (t0 + f * h0) (t1 + f * h1) (t2 + f * h2) (t3 + f * h3) t4 = hn S t0 t1 t2 t3 t4 + f * hn S h0 h1 h2 h3 0 := by
 unfold hn
 grind
theorem V5_mul (a0 a1 a2 a3 a4 b0 b1 b2 b3 b4 : Nat) :
  V5 (a0*b0 + a1*(19*b4) + a2*(19*b3) + a3*(19*b2) + a4*(19*b1))
   (a0*b1 + a1*b0 + a2*(19*b4) + a3*(19*b3) + a4*(19*b2))
   (a0*b2 + a1*b1 + a2*b0 + a3*(19*b4) + a4*(19*b3))
   (a0*b3 + a1*b2 + a2*b1 + a3*b0 + a4*(19*b4))
   (a0*b4 + a1*b3 + a2*b2 + a3*b1 + a4*b0) % 57896044618658097711785492504343953926634992332820282019728792003956564819949
   = V5 a0 a1 a2 a3 a4 * V5 b0 b1 b2 b3 b4 % 57896044618658097711785492504343953926634992332820282019728792003956564819949 := by
 have e1 := hn_mul 2251799813685248 a0 a1 a2 a3 a4 b0 b1 b2 b3 b4
 have e2 := hn_add 2251799813685248 19 (a0*b0) (a0*b1 + a1*b0) (a0*b2 + a1*b1 + a2*b0) (a0*b3 + a1*b2 + a2*b1 + a3*b0)
  (a0*b4 + a1*b3 + a2*b2 + a3*b1 + a4*b0) (a1*b4 + a2*b3 + a3*b2 + a4*b1) (a2*b4 + a3*b3 + a4*b2) (a3*b4 + a4*b3) (a4*b4)
 have e3 : 2251799813685248 * (2251799813685248 * (2251799813685248 * (2251799813685248 * 2251799813685248))) = 57896044618658097711785492504343953926634992332820282019728792003956564819949 + 19 := by decide
 rw [e3] at e1
 have e4 : V5 (a0*b0 + a1*(19*b4) + a2*(19*b3) + a3*(19*b2) + a4*(19*b1))
   (a0*b1 + a1*b0 + a2*(19*b4) + a3*(19*b3) + a4*(19*b2))
   (a0*b2 + a1*b1 + a2*b0 + a3*(19*b4) + a4*(19*b3))
   (a0*b3 + a1*b2 + a2*b1 + a3*b0 + a4*(19*b4))
   (a0*b4 + a1*b3 + a2*b2 + a3*b1 + a4*b0)
   = hn 2251799813685248 (a0*b0 + 19 * (a1*b4 + a2*b3 + a3*b2 + a4*b1)) (a0*b1 + a1*b0 + 19 * (a2*b4 + a3*b3 + a4*b2)) (a0*b2 + a1*b1 + a2*b0 + 19 * (a3*b4 + a4*b3)) (a0*b3 + a1*b2 + a2*b1 + a3*b0 + 19 * (a4*b4)) (a0*b4 + a1*b3 + a2*b2 + a3*b1 + a4*b0) := by
  unfold V5
  congr 1 <;> simp only [Nat.mul_add, Nat.mul_left_comm _ 19, Nat.add_assoc]
 rw [e4, e2]
 show _ = hn 2251799813685248 a0 a1 a2 a3 a4 * hn 2251799813685248 b0 b1 b2 b3 b4 % 57896044618658097711785492504343953926634992332820282019728792003956564819949
 rw [e1]
 generalize hn 2251799813685248 (a1*b4 + a2*b3 + a3*b2 + a4*b1) _ _ _ _ = h
 generalize hn 2251799813685248 (a0*b0) _ _ _ _ = t
 rw [Nat.add_mul, Nat.add_comm (57896044618658097711785492504343953926634992332820282019728792003956564819949 * h), ← Nat.add_assoc, Nat.add_mul_mod_self_left]
theorem V5_add (a0 a1 a2 a3 a4 b0 b1 b2 b3 b4 : Nat) :
  V5 (a0+b0) (a1+b1) (a2+b2) (a3+b3) (a4+b4) = V5 a0 a1 a2 a3 a4 + V5 b0 b1 b2 b3 b4 := by
 simp only [V5_lin]
 omega
theorem V5_sub (a0 a1 a2 a3 a4 b0 b1 b2 b3 b4 : Nat) (h0 : b0 < 4503599627370496) (h1 : b1 < 4503599627370496) (h2 : b2 < 4503599627370496)
  (h3 : b3 < 4503599627370496) (h4 : b4 < 4503599627370496) :
  V5 (a0 + 9007199254740916 - b0) (a1 + 9007199254740988 - b1) (a2 + 9007199254740988 - b2) (a3 + 9007199254740988 - b3) (a4 + 9007199254740988 - b4)
   + V5 b0 b1 b2 b3 b4 = V5 a0 a1 a2 a3 a4 + 57896044618658097711785492504343953926634992332820282019728792003956564819949 * 4 := by
 simp only [V5_lin]
 omega
theorem crr_lt {a e : Nat} (he : e < 4611686018427387904) : a % 2251799813685248 + e / 2251799813685248 * 19 < 4503599627370496 := by omega
theorem crr_lt' {a b : Nat} (ha : a < 4611686018427387904) : b % 2251799813685248 + a / 2251799813685248 < 4503599627370496 := by omega
def o0 (a : Nat) : Nat := (a + 19) / 2251799813685248
def o1 (a b : Nat) : Nat := (b + o0 a) / 2251799813685248
def o2 (a b c : Nat) : Nat := (c + o1 a b) / 2251799813685248
def o3 (a b c d : Nat) : Nat := (d + o2 a b c) / 2251799813685248
def o4 (a b c d e : Nat) : Nat := (e + o3 a b c d) / 2251799813685248
theorem o4_eq (a b c d e : Nat) : o4 a b c d e = (V5 a b c d e + 19) / (57896044618658097711785492504343953926634992332820282019728792003956564819949 + 19) := by
 unfold o4 o3 o2 o1 o0
 rw [V5_lin]
 omega
def dg (N : Nat) : Nat → Nat
 | 0 => N % 2251799813685248
 | k + 1 => dg (N / 2251799813685248) k
theorem dg_V5 (a b c d e x : Nat) :
  (a + x) % 2251799813685248 = dg (V5 a b c d e + x) 0
  ∧ (b + (a + x) / 2251799813685248) % 2251799813685248 = dg (V5 a b c d e + x) 1
  ∧ (c + (b + (a + x) / 2251799813685248) / 2251799813685248) % 2251799813685248 = dg (V5 a b c d e + x) 2
  ∧ (d + (c + (b + (a + x) / 2251799813685248) / 2251799813685248) / 2251799813685248) % 2251799813685248 = dg (V5 a b c d e + x) 3
  ∧ (e + (d + (c + (b + (a + x) / 2251799813685248) / 2251799813685248) / 2251799813685248) / 2251799813685248) % 2251799813685248 = dg (V5 a b c d e + x) 4 := by
 have h : ∀ N M r : Nat, (N + 2251799813685248 * M + r) / 2251799813685248 = M + (N + r) / 2251799813685248 := by intro N M r; omega
 have h' : ∀ N M r : Nat, (N + 2251799813685248 * M + r) % 2251799813685248 = (N + r) % 2251799813685248 := by intro N M r; omega
 unfold V5 hn
 simp only [dg, h, h', and_self]
theorem least_lt (a b c d e : Nat) (ha : a ≤ 2251799813685248 + 18) (hb : b ≤ 2251799813685248) (hc : c ≤ 2251799813685248) (hd : d ≤ 2251799813685248) (he : e ≤ 2251799813685248) : V5 a b c d e < 2 * 57896044618658097711785492504343953926634992332820282019728792003956564819949 := by
 rw [V5_lin]
 omega
theorem least_val {N : Nat} (h : N < 2 * 57896044618658097711785492504343953926634992332820282019728792003956564819949) : (N + (N + 19) / (57896044618658097711785492504343953926634992332820282019728792003956564819949 + 19) * 19) % (57896044618658097711785492504343953926634992332820282019728792003956564819949 + 19) = N % 57896044618658097711785492504343953926634992332820282019728792003956564819949 := by
 have h1 : N % 57896044618658097711785492504343953926634992332820282019728792003956564819949 = if N < 57896044618658097711785492504343953926634992332820282019728792003956564819949 then N else N - 57896044618658097711785492504343953926634992332820282019728792003956564819949 := by
  split
  ·rename_i h2; exact Nat.mod_eq_of_lt h2
  ·rename_i h2
   rw [Nat.mod_eq_sub_mod (by omega)]
   exact Nat.mod_eq_of_lt (by omega)
 rw [h1]
 split <;> omega
end
section
open Go.RowKit
theorem w64 (n : Int) (h₀ : 0 ≤ n) (h₁ : n < 2 ^ 64) : IntKind.u64.wrap n = n := by rw [IntKind.wrap_u64]; omega
theorem mask51 (l : Nat) (h : l < 18446744073709551616) : bits .and .u64 (l : Int) 2251799813685247 = ((l % 2251799813685248 : Nat) : Int) := by
 have h1 := bits_mask .u64 64 (by decide) w64 51 (by decide) (l : Int) (by omega) (by omega)
 have h2 : ((l % 2251799813685248 : Nat) : Int) = (l : Int) % 2 ^ 51 := by omega
 rw [h2]
 exact h1
theorem or13 (h l : Nat) (hl : l < 18446744073709551616) : bits .or .u64 (IntKind.u64.wrap ((h : Int) * 8192)) ((l : Int) / 2251799813685248)
  = ((h * 8192 % 18446744073709551616 + l / 2251799813685248 : Nat) : Int) := by
 have e1 : IntKind.u64.wrap ((h : Int) * 8192) = ((h * 8192 % 18446744073709551616 : Nat) : Int) := by
  rw [IntKind.wrap_u64]
  omega
 have e2 : (l : Int) / 2251799813685248 = ((l / 2251799813685248 : Nat) : Int) := by omega
 rw [e1, e2, bits_or_u64_nat _ _ (by omega) (by omega)]
 have e3 : h * 8192 % 18446744073709551616 = 2 ^ 13 * (h % 2251799813685248) := by omega
 rw [e3, ← Nat.two_pow_add_eq_or_of_lt (by omega)]
set_option maxHeartbeats 1600000 in
theorem limb_any (h l : Nat) (hl : l < 18446744073709551616) (w : World) :
  Calls Tryz.prog 100 #[.agg #[.int .u64 (h : Int), .int .u64 (l : Int)]] w fun e w' => e = .returned (.int .u64 ((l % 2251799813685248 : Nat) : Int)) ∧ Below w.heap.size w w' := by
 go_enter Tryz.func100, Tryz.ntmps100
 go_wp2
 go_ret
 refine ⟨?_, (Below.refl _ _).alloc (Nat.le_refl _) _⟩
 rw [mask51 l hl]
 rfl
set_option maxHeartbeats 1600000 in
theorem over_any (h l : Nat) (hl : l < 18446744073709551616) (w : World) :
  Calls Tryz.prog 101 #[.agg #[.int .u64 (h : Int), .int .u64 (l : Int)]] w fun e w' => e = .returned (.int .u64 (((h * 8192) % 18446744073709551616 + l / 2251799813685248 : Nat) : Int)) ∧ Below w.heap.size w w' := by
 go_enter Tryz.func101, Tryz.ntmps101
 go_wp2
 go_ret
 refine ⟨?_, (Below.refl _ _).alloc (Nat.le_refl _) _⟩
 rw [or13 h l hl]
 rfl
end
section
open Go.RowKit
def L5 (a b c d e : Nat) : List Value := [.int .u64 (a : Int), .int .u64 (b : Int), .int .u64 (c : Int), .int .u64 (d : Int), .int .u64 (e : Int)]
theorem below2 (w : World) (X Y : Obj) : Below w.heap.size w ((w.alloc X).alloc Y) := ((Below.refl _ _).alloc (Nat.le_refl _) _).alloc (by simp) _
theorem crr19 (a e : Nat) (he : e < 4611686018427387904) :
  IntKind.u64.wrap (((a % 2251799813685248 : Nat) : Int) + (e : Int) / 2251799813685248 * 19) = ((a % 2251799813685248 + e / 2251799813685248 * 19 : Nat) : Int) := by
 simp only [IntKind.wrap_u64]
 omega
theorem crr1 (a e : Nat) (he : e < 4611686018427387904) :
  IntKind.u64.wrap (((a % 2251799813685248 : Nat) : Int) + (e : Int) / 2251799813685248) = ((a % 2251799813685248 + e / 2251799813685248 : Nat) : Int) := by
 simp only [IntKind.wrap_u64]
 omega
set_option maxHeartbeats 1600000 in
theorem carry_any (a b c d e : Nat) (ha : a < 4611686018427387904) (hb : b < 4611686018427387904) (hc : c < 4611686018427387904) (hd : d < 4611686018427387904) (he : e < 4611686018427387904) (w : World) :
  Calls Tryz.prog 93 #[.agg (L5 a b c d e).toArray] w fun r w' => r = .returned (.agg (L5 (a % 2251799813685248 + e / 2251799813685248 * 19) (b % 2251799813685248 + a / 2251799813685248)
   (c % 2251799813685248 + b / 2251799813685248) (d % 2251799813685248 + c / 2251799813685248) (e % 2251799813685248 + d / 2251799813685248)).toArray) ∧ Below w.heap.size w w' := by
 simp only [L5]
 go_enter Tryz.func93, Tryz.ntmps93
 go_wp2
 refine bodyPost_ret (results_cell_row (by rfl) _ _ (w.heap.size + 1) _ _ _ _ (by rfl) (heap_alloc2_new _ _ _) Tryz.underlying60 rfl (by kernel_rfl)) rfl ?_
 refine ⟨?_, below2 _ _ _⟩
 rw [mask51 a (by omega), mask51 b (by omega), mask51 c (by omega), mask51 d (by omega), mask51 e (by omega), crr19 a e he, crr1 b a ha, crr1 c b hb, crr1 d c hc, crr1 e d hd]
end
end
section
section
open Go.RowKit
theorem add64n (x y c s o : Nat) (hc : c ≤ 1) (hs : s = (x + y + c) % 18446744073709551616) (ho : o = (x + y + c) / 18446744073709551616) (w : World) : (callFunc 104 #[.int .u64 (x : Int), .int .u64 (y : Int), .int .u64 (c : Int)]).run Tryz.prog w =
  .ok (.value (.tuple #[.int .u64 (s : Int), .int .u64 (o : Int)])) w := by
 subst hs ho
 rw [run_callFunc_extern Tryz.func104 (by kernel_rfl) (by kernel_rfl) (by kernel_rfl) (e := add64Entry) (by kernel_rfl), run_add64 x y c (by omega) (by omega) (by omega) (by omega)]
 simp only [Result.andThen]
 congr 5 <;> omega
set_option maxHeartbeats 1000000 in
theorem mul64n (x y : Nat) (hx : x < 18446744073709551616) (hy : y < 18446744073709551616) (w : World) :
  Calls Tryz.prog 103 #[.int .u64 (x : Int), .int .u64 (y : Int)] w fun e w' => e = .returned (.tuple #[.int .u64 ((x * y / 18446744073709551616 : Nat) : Int), .int .u64 ((x * y % 18446744073709551616 : Nat) : Int)]) ∧ w' = w := by
 obtain ⟨bd, bt, bw, hhi⟩ := Lib.mul64_hi x y hx hy
 have ba := Lib.half_mul_le (a := x / 4294967296) (b := y / 4294967296) (by omega) (by omega)
 have bb := Lib.half_mul_le (a := x / 4294967296) (b := y % 4294967296) (by omega) (by omega)
 have bc := Lib.half_mul_le (a := x % 4294967296) (b := y / 4294967296) (by omega) (by omega)
 have ba' : x / 4294967296 * (y / 4294967296) < 18446744073709551616 := by omega
 have bb' : x / 4294967296 * (y % 4294967296) < 18446744073709551616 := by omega
 have bc' : x % 4294967296 * (y / 4294967296) < 18446744073709551616 := by omega
 have bh1 : x / 4294967296 * (y / 4294967296) + (x / 4294967296 * (y % 4294967296) + x % 4294967296 * (y % 4294967296) / 4294967296) / 4294967296 < 18446744073709551616 := by omega
 have bh : x / 4294967296 * (y / 4294967296) + (x / 4294967296 * (y % 4294967296) + x % 4294967296 * (y % 4294967296) / 4294967296) / 4294967296 + ((x / 4294967296 * (y % 4294967296) + x % 4294967296 * (y % 4294967296) / 4294967296) % 4294967296 + x % 4294967296 * (y / 4294967296)) / 4294967296 < 18446744073709551616 := by omega
 go_enter Tryz.func103, Tryz.ntmps103
 go_wp2
 simp only [Mul64.maskN x hx, Mul64.maskN y hy, Mul64.divN, Mul64.mulN, Mul64.addN, Mul64.wrapN _ bd, Mul64.wrapN _ bb', Mul64.wrapN _ bt, Mul64.maskN _ bt, Mul64.wrapN _ bc', Mul64.wrapN _ bw, Mul64.wrapN _ ba', Mul64.wrapN _ bh1, Mul64.wrapN _ bh, Mul64.wrapM (x * y)]
 rw [hhi]
 go_ret2
 exact ⟨rfl, rfl⟩
theorem add64z (x y s o : Nat) (hs : s = (x + y) % 18446744073709551616) (ho : o = (x + y) / 18446744073709551616) (w : World) : (callFunc 104 #[.int .u64 (x : Int), .int .u64 (y : Int), .int .u64 0]).run Tryz.prog w =
  .ok (.value (.tuple #[.int .u64 (s : Int), .int .u64 (o : Int)])) w := add64n x y 0 s o (by omega) hs ho w
def Wd (N : Nat) : List Value := [.int .u64 ((N / 18446744073709551616 : Nat) : Int), .int .u64 ((N % 18446744073709551616 : Nat) : Int)]
set_option maxHeartbeats 1600000 in
theorem plus_any (N x y : Nat) (hx : x < 18446744073709551616) (hy : y < 18446744073709551616) (hN : N + x * y < 340282366920938463463374607431768211456) (w : World) :
  Calls Tryz.prog 99 #[.agg (Wd N).toArray, .int .u64 (x : Int), .int .u64 (y : Int)] w fun e w' => e = .returned (.agg (Wd (N + x * y)).toArray) ∧ Below w.heap.size w w' := by
 have hmul := mul64n x y hx hy
 generalize x * y = M at *
 have hh : N / 18446744073709551616 < 18446744073709551616 := by omega
 have hl : N % 18446744073709551616 < 18446744073709551616 := Nat.mod_lt _ (by decide)
 have hadd := add64z (N % 18446744073709551616) (M % 18446744073709551616) ((N + M) % 18446744073709551616) ((N % 18446744073709551616 + M % 18446744073709551616) / 18446744073709551616) (by omega) (by omega)
 have hs : IntKind.u64.wrap (IntKind.u64.wrap (((N / 18446744073709551616 : Nat) : Int) + ((M / 18446744073709551616 : Nat) : Int)) + (((N % 18446744073709551616 + M % 18446744073709551616) / 18446744073709551616 : Nat) : Int)) = (((N + M) / 18446744073709551616 : Nat) : Int) := by
  simp only [IntKind.wrap_u64]
  omega
 simp only [Wd]
 generalize (N + M) / 18446744073709551616 = hr at *
 generalize (N + M) % 18446744073709551616 = lr at *
 generalize (N % 18446744073709551616 + M % 18446744073709551616) / 18446744073709551616 = ov at *
 generalize N / 18446744073709551616 = hn at *
 generalize N % 18446744073709551616 = ln at *
 generalize M / 18446744073709551616 = hm at *
 generalize M % 18446744073709551616 = lm at *
 have HS := Lib.hid hs
 have HMUL := Lib.hid hmul
 clear hs hN hmul
 go_enter Tryz.func99, Tryz.ntmps99
 go_wp2_with fail
 refine (HMUL.out _).mono ?_
 rintro e w' ⟨rfl, rfl⟩
 go_wp2_with fail
 refine bodyPost_ret (results_cell_row (by rfl) _ _ (w.heap.size + 1) _ _ _ _ (by rfl) (heap_alloc2_new _ _ _) Tryz.underlying141 rfl (by kernel_rfl)) rfl ?_
 refine ⟨?_, below2 _ _ _⟩
 rw [HS.out]
end
section
open Go.RowKit
set_option maxHeartbeats 1600000 in
theorem small_any (n : Nat) (h : n < 4294967296) (w : World) :
  Calls Tryz.prog 92 #[.int .u32 (n : Int)] w fun e w' => e = .returned (.agg (L5 n 0 0 0 0).toArray) ∧ Below w.heap.size w w' := by
 go_enter Tryz.func92, Tryz.ntmps92
 go_wp2
 refine bodyPost_ret (results_cell_row (by rfl) _ _ w.heap.size _ _ _ _ (by rfl) (heap_alloc_new _ _) Tryz.underlying62 rfl (by kernel_rfl)) rfl ?_
 exact ⟨rfl, (Below.refl _ _).alloc (Nat.le_refl _) _⟩
end
end
structure Lm where
 a : Nat
 b : Nat
 c : Nat
 d : Nat
 e : Nat
def EL (x : Lm) : List Value := L5 x.a x.b x.c x.d x.e
structure Lm.ok (x : Lm) : Prop where
 a : x.a < 4503599627370496
 b : x.b < 4503599627370496
 c : x.c < 4503599627370496
 d : x.d < 4503599627370496
 e : x.e < 4503599627370496
def nu (x : Lm) : Nat := V5 x.a x.b x.c x.d x.e % 57896044618658097711785492504343953926634992332820282019728792003956564819949
theorem nu_lt (x : Lm) : nu x < 57896044618658097711785492504343953926634992332820282019728792003956564819949 := Nat.mod_lt _ (by decide)
def crL (x : Lm) : Lm := ⟨x.a % 2251799813685248 + x.e / 2251799813685248 * 19, x.b % 2251799813685248 + x.a / 2251799813685248, x.c % 2251799813685248 + x.b / 2251799813685248, x.d % 2251799813685248 + x.c / 2251799813685248, x.e % 2251799813685248 + x.d / 2251799813685248⟩
theorem nu_crL (x : Lm) : nu (crL x) = nu x := crr_mod ..
structure Lm.wide (x : Lm) : Prop where
 a : x.a < 4611686018427387904
 b : x.b < 4611686018427387904
 c : x.c < 4611686018427387904
 d : x.d < 4611686018427387904
 e : x.e < 4611686018427387904
theorem crL_ok {x : Lm} (h : x.wide) : (crL x).ok := ⟨crr_lt h.e, crr_lt' h.a, crr_lt' h.b, crr_lt' h.c, crr_lt' h.d⟩
def pAdd (x y : Lm) : Lm := ⟨x.a + y.a, x.b + y.b, x.c + y.c, x.d + y.d, x.e + y.e⟩
def addL (x y : Lm) : Lm := crL (pAdd x y)
theorem pAdd_wide {x y : Lm} (hx : x.ok) (hy : y.ok) : (pAdd x y).wide := by
 obtain ⟨_, _, _, _, _⟩ := hx
 obtain ⟨_, _, _, _, _⟩ := hy
 constructor <;> simp only [pAdd] <;> omega
theorem addL_ok {x y : Lm} (hx : x.ok) (hy : y.ok) : (addL x y).ok := crL_ok (pAdd_wide hx hy)
theorem nu_addL (x y : Lm) : nu (addL x y) = (nu x + nu y) % 57896044618658097711785492504343953926634992332820282019728792003956564819949 := by
 show nu (crL _) = _
 rw [nu_crL]
 show V5 (x.a + y.a) (x.b + y.b) (x.c + y.c) (x.d + y.d) (x.e + y.e) % _ = _
 rw [V5_add, Nat.add_mod]
 rfl
def pSub (x y : Lm) : Lm := ⟨x.a + 9007199254740916 - y.a, x.b + 9007199254740988 - y.b, x.c + 9007199254740988 - y.c, x.d + 9007199254740988 - y.d, x.e + 9007199254740988 - y.e⟩
def subL (x y : Lm) : Lm := crL (pSub x y)
theorem pSub_wide {x y : Lm} (hx : x.ok) : (pSub x y).wide := by
 obtain ⟨_, _, _, _, _⟩ := hx
 constructor <;> simp only [pSub] <;> omega
theorem subL_ok {x y : Lm} (hx : x.ok) : (subL x y).ok := crL_ok (pSub_wide hx)
theorem nu_subL (x : Lm) {y : Lm} (hy : y.ok) : nu (subL x y) = (nu x + (57896044618658097711785492504343953926634992332820282019728792003956564819949 - nu y)) % 57896044618658097711785492504343953926634992332820282019728792003956564819949 := by
 have h := V5_sub x.a x.b x.c x.d x.e y.a y.b y.c y.d y.e hy.a hy.b hy.c hy.d hy.e
 show nu (crL _) = _
 rw [nu_crL]
 show V5 (x.a + 9007199254740916 - y.a) (x.b + 9007199254740988 - y.b) (x.c + 9007199254740988 - y.c) (x.d + 9007199254740988 - y.d) (x.e + 9007199254740988 - y.e) % _ = _
 unfold nu
 generalize V5 (x.a + 9007199254740916 - y.a) _ _ _ _ = A at *
 generalize V5 y.a _ _ _ _ = B at *
 generalize V5 x.a _ _ _ _ = C at *
 omega
def zeL : Lm := ⟨0, 0, 0, 0, 0⟩
theorem zeL_ok : zeL.ok := by constructor <;> decide
def negL (x : Lm) : Lm := subL zeL x
theorem negL_ok (x : Lm) : (negL x).ok := subL_ok zeL_ok
theorem nu_zeL : nu zeL = 0 := by decide
theorem nu_negL {x : Lm} (h : x.ok) : nu (negL x) = (57896044618658097711785492504343953926634992332820282019728792003956564819949 - nu x) % 57896044618658097711785492504343953926634992332820282019728792003956564819949 := by
 show nu (subL zeL x) = _
 rw [nu_subL _ h, nu_zeL, Nat.zero_add]
def pMul (x y : Lm) : Lm :=
 ⟨x.a * y.a + x.b * (19 * y.e) + x.c * (19 * y.d) + x.d * (19 * y.c) + x.e * (19 * y.b),
 x.a * y.b + x.b * y.a + x.c * (19 * y.e) + x.d * (19 * y.d) + x.e * (19 * y.c),
 x.a * y.c + x.b * y.b + x.c * y.a + x.d * (19 * y.e) + x.e * (19 * y.d),
 x.a * y.d + x.b * y.c + x.c * y.b + x.d * y.a + x.e * (19 * y.e),
 x.a * y.e + x.b * y.d + x.c * y.c + x.d * y.b + x.e * y.a⟩
def mulL (x y : Lm) : Lm := crL (crL (pMul x y))
theorem mul19 {u v : Nat} (hu : u < 4503599627370496) (hv : v < 4503599627370496) : u * (19 * v) < 385365782469381738054997774434304 := by
 have h : u * (19 * v) ≤ 4503599627370495 * (19 * 4503599627370495) := Nat.mul_le_mul (by omega) (by omega)
 omega
theorem mul1 {u v : Nat} (hu : u < 4503599627370496) (hv : v < 4503599627370496) : u * v < 20282409603651670423947251286016 := by
 have h : u * v ≤ 4503599627370495 * 4503599627370495 := Nat.mul_le_mul (by omega) (by omega)
 omega
structure Lm.prod (x : Lm) : Prop where
 a : x.a < 2596148429267413814265248164610048
 b : x.b < 2596148429267413814265248164610048
 c : x.c < 2596148429267413814265248164610048
 d : x.d < 2596148429267413814265248164610048
 e : x.e < 162259276829213363391578010288128
theorem pMul_prod {x y : Lm} (hx : x.ok) (hy : y.ok) : (pMul x y).prod := by
 obtain ⟨a0, a1, a2, a3, a4⟩ := hx
 obtain ⟨b0, b1, b2, b3, b4⟩ := hy
 have ee := fun {u v : Nat} (hu : u < 4503599627370496) (hv : v < 4503599627370496) => mul19 hu hv
 have ff := fun {u v : Nat} (hu : u < 4503599627370496) (hv : v < 4503599627370496) => mul1 hu hv
 constructor
 ·simp only [pMul]
  have := mul1 a0 b0; have := mul19 a1 b4; have := mul19 a2 b3; have := mul19 a3 b2; have := mul19 a4 b1
  omega
 ·simp only [pMul]
  have := mul1 a0 b1; have := mul1 a1 b0; have := mul19 a2 b4; have := mul19 a3 b3; have := mul19 a4 b2
  omega
 ·simp only [pMul]
  have := mul1 a0 b2; have := mul1 a1 b1; have := mul1 a2 b0; have := mul19 a3 b4; have := mul19 a4 b3
  omega
 ·simp only [pMul]
  have := mul1 a0 b3; have := mul1 a1 b2; have := mul1 a2 b1; have := mul1 a3 b0; have := mul19 a4 b4
  omega
 ·simp only [pMul]
  have := mul1 a0 b4; have := mul1 a1 b3; have := mul1 a2 b2; have := mul1 a3 b1; have := mul1 a4 b0
  omega
theorem crL_wide {x : Lm} (h : x.prod) : (crL x).wide := by
 obtain ⟨_, _, _, _, _⟩ := h
 constructor <;> simp only [crL] <;> omega
theorem mulL_ok {x y : Lm} (hx : x.ok) (hy : y.ok) : (mulL x y).ok := crL_ok (crL_wide (pMul_prod hx hy))
theorem nu_mulL (x y : Lm) : nu (mulL x y) = nu x * nu y % 57896044618658097711785492504343953926634992332820282019728792003956564819949 := by
 show nu (crL (crL _)) = _
 rw [nu_crL, nu_crL]
 show V5 _ _ _ _ _ % _ = _
 refine (V5_mul x.a x.b x.c x.d x.e y.a y.b y.c y.d y.e).trans ?_
 rw [Nat.mul_mod]
 rfl
def ofN (N : Nat) : Lm := ⟨dg N 0, dg N 1, dg N 2, dg N 3, dg N 4⟩
def ofl (N : Nat) : Nat → Nat → Nat
 | 0, _ => 0
 | k + 1, j => ofl N k j + if 8 * k / 51 = j then byt N k * 2 ^ (8 * k % 51) else 0
theorem ofl_mono (N j : Nat) {k n : Nat} (h : k ≤ n) : ofl N k j ≤ ofl N n j := by
 induction h with
 | refl => exact Nat.le_refl _
 | step _ ih => exact Nat.le_trans ih (Nat.le_add_right _ _)
def obd : Nat → Nat → Nat
 | 0, _ => 0
 | k + 1, j => obd k j + if 8 * k / 51 = j then 255 * 2 ^ (8 * k % 51) else 0
theorem ofl_le (N j : Nat) : ∀ k, ofl N k j ≤ obd k j
 | 0 => Nat.le_refl _
 | k + 1 => by
  have ih := ofl_le N j k
  have hb := byt_lt N k
  show ofl N k j + (if 8 * k / 51 = j then byt N k * 2 ^ (8 * k % 51) else 0) ≤ obd k j + (if 8 * k / 51 = j then 255 * 2 ^ (8 * k % 51) else 0)
  split
  ·have := Nat.mul_le_mul_right (2 ^ (8 * k % 51)) (show byt N k ≤ 255 by omega)
   omega
  ·omega
theorem ofl_lt (N j : Nat) (hj : j < 5) : ofl N 32 j < 4611686018427387904 := by
 have h : ∀ j, j < 5 → obd 32 j < 4611686018427387904 := by decide +kernel
 exact Nat.lt_of_le_of_lt (ofl_le N j 32) (h j hj)
theorem byt_mod255 (N : Nat) {i : Nat} (hi : i < 31) : byt (N % 57896044618658097711785492504343953926634992332820282019728792003956564819968) i = byt N i := by
 unfold byt
 have e : (57896044618658097711785492504343953926634992332820282019728792003956564819968 : Nat) = 2 ^ (8 * i) * (256 * 2 ^ (247 - 8 * i)) := by
  rw [show (256 : Nat) = 2 ^ 8 from rfl, ← Nat.pow_add, ← Nat.pow_add, show 8 * i + (8 + (247 - 8 * i)) = 255 by omega]
 rw [e, Nat.mod_mul_right_div_self, Nat.mod_mul_right_mod]
theorem byt_mod255_31 (N : Nat) : byt (N % 57896044618658097711785492504343953926634992332820282019728792003956564819968) 31 = byt N 31 % 128 := by
 unfold byt
 rw [show (2 : Nat) ^ (8 * 31) = 452312848583266388373324160190187140051835877600158453279131187530910662656 by decide]
 omega
theorem ofl_sum (N : Nat) : ∀ k, k ≤ 32 → V5 (ofl N k 0) (ofl N k 1) (ofl N k 2) (ofl N k 3) (ofl N k 4) = N % 256 ^ k
 | 0, _ => by rw [Nat.pow_zero, Nat.mod_one]; rfl
 | k + 1, h => by
  have ih := ofl_sum N k (by omega)
  have e : N % 256 ^ (k + 1) = N % 256 ^ k + 256 ^ k * byt N k := by
   rw [Nat.pow_succ, Nat.mod_mul]
   unfold byt
   rw [← pow256]
  rw [e, ← ih]
  have hp : 256 ^ k * byt N k = 2251799813685248 ^ (8 * k / 51) * (byt N k * 2 ^ (8 * k % 51)) := by
   have h1 : 256 ^ k = 2251799813685248 ^ (8 * k / 51) * 2 ^ (8 * k % 51) := by
    rw [pow256, show (2251799813685248 : Nat) = 2 ^ 51 from rfl, ← Nat.pow_mul, ← Nat.pow_add]
    congr 1
    omega
   rw [h1, Nat.mul_assoc, Nat.mul_comm (2 ^ _)]
  rw [hp]
  have hj : 8 * k / 51 < 5 := by omega
  rw [V5_lin, V5_lin]
  simp only [ofl]
  generalize byt N k * 2 ^ (8 * k % 51) = X at *
  generalize 8 * k / 51 = j at *
  match j, hj with
  | 0, _ => simp; omega
  | 1, _ => simp; omega
  | 2, _ => simp; omega
  | 3, _ => simp; omega
  | 4, _ => simp; omega
def raL (N : Nat) : Lm := ⟨ofl N 32 0, ofl N 32 1, ofl N 32 2, ofl N 32 3, ofl N 32 4⟩
theorem raL_wide (N : Nat) : (raL N).wide := ⟨ofl_lt N 0 (by decide), ofl_lt N 1 (by decide), ofl_lt N 2 (by decide), ofl_lt N 3 (by decide), ofl_lt N 4 (by decide)⟩
def ofB (N : Nat) : Lm := crL (raL (N % 57896044618658097711785492504343953926634992332820282019728792003956564819968))
theorem ofB_ok (N : Nat) : (ofB N).ok := crL_ok (raL_wide _)
theorem nu_ofB (N : Nat) : nu (ofB N) = N % 57896044618658097711785492504343953926634992332820282019728792003956564819968 % 57896044618658097711785492504343953926634992332820282019728792003956564819949 := by
 show nu (crL (raL _)) = _
 rw [nu_crL]
 show V5 (ofl _ 32 0) (ofl _ 32 1) (ofl _ 32 2) (ofl _ 32 3) (ofl _ 32 4) % _ = _
 rw [ofl_sum _ 32 (by decide), Nat.mod_eq_of_lt (b := 256 ^ 32)]
 exact Nat.lt_of_lt_of_le (Nat.mod_lt _ (by decide)) (by decide)
theorem byte_limbs (D E t : Nat) (hD : D < 2251799813685248) (ht : t ≤ 50) : (D / 2 ^ t) % 256 ||| (E * 2 ^ (51 - t)) % 256 = ((D + 2251799813685248 * E) / 2 ^ t) % 256 := by
 have hs : (2251799813685248 : Nat) = 2 ^ t * 2 ^ (51 - t) := by rw [← Nat.pow_add, show t + (51 - t) = 51 by omega]
 have hA : D / 2 ^ t < 2 ^ (51 - t) := (Nat.div_lt_iff_lt_mul (Nat.two_pow_pos t)).2 (by rw [Nat.mul_comm, ← hs]; exact hD)
 rw [hs, Nat.mul_assoc, Nat.add_mul_div_left _ _ (Nat.two_pow_pos t), Nat.mul_comm E]
 generalize D / 2 ^ t = A at *
 by_cases h8 : 8 ≤ 51 - t
 ·obtain ⟨m, hm⟩ : ∃ m, 2 ^ (51 - t) = 256 * m := ⟨2 ^ (51 - t - 8), by rw [show (256 : Nat) = 2 ^ 8 from rfl, ← Nat.pow_add]; congr 1; omega⟩
  rw [hm, Nat.mul_assoc, Nat.mul_mod_right, Nat.or_zero, Nat.add_mul_mod_self_left]
 ·obtain ⟨m, hm⟩ : ∃ m, 256 = 2 ^ (51 - t) * m := ⟨2 ^ (8 - (51 - t)), by rw [show (256 : Nat) = 2 ^ 8 from rfl, ← Nat.pow_add]; congr 1; omega⟩
  have hA2 : A < 256 := Nat.lt_of_lt_of_le hA (by rw [show (256 : Nat) = 2 ^ 8 from rfl]; exact Nat.pow_le_pow_right (by decide) (by omega))
  have e : 2 ^ (51 - t) * E % 256 = 2 ^ (51 - t) * (E % m) := by rw [hm, Nat.mul_mod_mul_left]
  have e2 : (A + 2 ^ (51 - t) * E) % 256 = A + 2 ^ (51 - t) * (E % m) := by
   have h1 : (A + 2 ^ (51 - t) * E) % 256 = (A + 2 ^ (51 - t) * E % 256) % 256 := by omega
   rw [h1, e]
   refine Nat.mod_eq_of_lt ?_
   have hm0 : 0 < m := by rcases Nat.eq_zero_or_pos m with h | h; (rw [h] at hm; omega); exact h
   have hl := Nat.mod_lt E hm0
   have h2 : 2 ^ (51 - t) * (E % m + 1) ≤ 2 ^ (51 - t) * m := Nat.mul_le_mul_left _ hl
   rw [Nat.mul_add, ← hm] at h2
   omega
  rw [e, e2, Nat.mod_eq_of_lt hA2, Nat.or_comm, ← Nat.two_pow_add_eq_or_of_lt hA, Nat.add_comm]
theorem dg_div (N : Nat) : ∀ k, dg N k = N / 2251799813685248 ^ k % 2251799813685248
 | 0 => by rw [Nat.pow_zero, Nat.div_one]; rfl
 | k + 1 => by
  show dg (N / 2251799813685248) k = _
  rw [dg_div _ k, Nat.div_div_eq_div_mul, Nat.pow_succ, Nat.mul_comm (2251799813685248 ^ k)]
theorem dg_lt (N k : Nat) : dg N k < 2251799813685248 := by rw [dg_div]; exact Nat.mod_lt _ (by decide)
theorem byt_dg (N i : Nat) : (dg N (8 * i / 51) / 2 ^ (8 * i % 51)) % 256 ||| (dg N (8 * i / 51 + 1) * 2 ^ (51 - 8 * i % 51)) % 256 = byt N i := by
 rw [byte_limbs _ _ _ (dg_lt _ _) (by omega)]
 have e1 : dg N (8 * i / 51) + 2251799813685248 * dg N (8 * i / 51 + 1) = N / 2251799813685248 ^ (8 * i / 51) % (2251799813685248 * 2251799813685248) := by
  rw [dg_div, dg_div, Nat.mod_mul, Nat.pow_succ, Nat.div_div_eq_div_mul]
 have e2 : (2251799813685248 * 2251799813685248 : Nat) = 2 ^ (8 * i % 51) * (256 * 2 ^ (94 - 8 * i % 51)) := by
  rw [show (256 : Nat) = 2 ^ 8 from rfl, ← Nat.pow_add, ← Nat.pow_add, show 8 * i % 51 + (8 + (94 - 8 * i % 51)) = 102 by omega]
 rw [e1, e2, Nat.mod_mul_right_div_self, Nat.mod_mul_right_mod, Nat.div_div_eq_div_mul]
 unfold byt
 congr 2
 rw [show (2251799813685248 : Nat) = 2 ^ 51 from rfl, ← Nat.pow_mul, ← Nat.pow_add]
 congr 1
 omega
theorem byt_dg4 {N i : Nat} (hN : N < 57896044618658097711785492504343953926634992332820282019728792003956564819968) (h4 : 8 * i / 51 = 4) : (dg N 4 / 2 ^ (8 * i % 51)) % 256 = byt N i := by
 have h := byt_dg N i
 have h5 : dg N 5 = 0 := by
  rw [dg_div, Nat.div_eq_of_lt, Nat.zero_mod]
  exact hN
 rw [h4, h5, Nat.zero_mul, Nat.zero_mod, Nat.or_zero] at h
 exact h
def Lm.get (x : Lm) : Nat → Nat
 | 0 => x.a
 | 1 => x.b
 | 2 => x.c
 | 3 => x.d
 | _ => x.e
def cin (x : Lm) (s : Nat) : Nat → Nat
 | 0 => s
 | k + 1 => (x.get k + cin x s k) / 2251799813685248
def lout (x : Lm) (s k : Nat) : Nat := (x.get k + cin x s k) % 2251799813685248
theorem cin_lt {x : Lm} (h : x.ok) {s : Nat} (hs : s < 2251799813685248) : ∀ k, cin x s k < 2251799813685248
 | 0 => hs
 | k + 1 => by
  have ih := cin_lt h hs k
  have hg : x.get k < 4503599627370496 := by
   match k with
   | 0 => exact h.a
   | 1 => exact h.b
   | 2 => exact h.c
   | 3 => exact h.d
   | _ + 4 => exact h.e
  show (x.get k + cin x s k) / 2251799813685248 < _
  omega
theorem Lm.get_lt {x : Lm} (h : x.ok) (k : Nat) : x.get k < 4503599627370496 := by
 match k with
 | 0 => exact h.a
 | 1 => exact h.b
 | 2 => exact h.c
 | 3 => exact h.d
 | _ + 4 => exact h.e
theorem cin_19 (y : Lm) : cin y 19 5 = o4 y.a y.b y.c y.d y.e := rfl
theorem lout_dg (y : Lm) (s : Nat) : lout y s 0 = dg (V5 y.a y.b y.c y.d y.e + s) 0 ∧ lout y s 1 = dg (V5 y.a y.b y.c y.d y.e + s) 1 ∧ lout y s 2 = dg (V5 y.a y.b y.c y.d y.e + s) 2 ∧ lout y s 3 = dg (V5 y.a y.b y.c y.d y.e + s) 3 ∧ lout y s 4 = dg (V5 y.a y.b y.c y.d y.e + s) 4 := dg_V5 y.a y.b y.c y.d y.e s
theorem dg_low (M k : Nat) (hk : k < 5) : dg (M % (57896044618658097711785492504343953926634992332820282019728792003956564819949 + 19)) k = dg M k := by
 match k, hk with
 | 0, _ => simp only [dg]; omega
 | 1, _ => simp only [dg]; omega
 | 2, _ => simp only [dg]; omega
 | 3, _ => simp only [dg]; omega
 | 4, _ => simp only [dg]; omega
theorem least_lout {x : Lm} (h : x.ok) (k : Nat) (hk : k < 5) : lout (crL x) (cin (crL x) 19 5 * 19) k = dg (nu x) k := by
 have hlt : V5 (crL x).a (crL x).b (crL x).c (crL x).d (crL x).e < 2 * 57896044618658097711785492504343953926634992332820282019728792003956564819949 := by
  obtain ⟨_, _, _, _, _⟩ := h
  refine least_lt _ _ _ _ _ ?_ ?_ ?_ ?_ ?_ <;> simp only [crL] <;> omega
 have hv := least_val hlt
 rw [cin_19, o4_eq]
 have hnu : nu x = V5 (crL x).a (crL x).b (crL x).c (crL x).d (crL x).e % 57896044618658097711785492504343953926634992332820282019728792003956564819949 := (nu_crL x).symm
 rw [hnu, ← hv, dg_low _ _ hk]
 obtain ⟨d0, d1, d2, d3, d4⟩ := lout_dg (crL x) ((V5 (crL x).a (crL x).b (crL x).c (crL x).d (crL x).e + 19) / (57896044618658097711785492504343953926634992332820282019728792003956564819949 + 19) * 19)
 match k, hk with
 | 0, _ => exact d0
 | 1, _ => exact d1
 | 2, _ => exact d2
 | 3, _ => exact d3
 | 4, _ => exact d4
section
section
open Go.RowKit
def By (N n : Nat) : List Value := Tabs .u8 (byt N) n
theorem By_length (N n : Nat) : (By N n).length = n := Tabs_length ..
theorem By_get (N n : Nat) {k : Nat} (hk : k < n) : (By N n)[k]? = some (.int .u8 ((byt N k : Nat) : Int)) := Tabs_get _ _ _ hk
theorem By_one (N n : Nat) : (By N n).toArray.all (·.oneCell') = true := Tabs_one ..
theorem By_ext {l : List Value} (N n : Nat) (hl : l.length = n) (h : ∀ k, k < n → l[k]? = some (.int .u8 ((byt N k : Nat) : Int))) : l = By N n := by
 refine List.ext_getElem? fun k => ?_
 by_cases hk : k < n
 ·rw [h k hk, By_get N n hk]
 ·rw [List.getElem?_eq_none (by omega), List.getElem?_eq_none (by rw [By_length]; omega)]
theorem mod_byte (N k : Nat) : N % 256 ^ (k + 1) = N % 256 ^ k + byt N k * 256 ^ k := by
 rw [Nat.pow_succ, Nat.mod_mul, Nat.mul_comm (256 ^ k)]
 unfold byt
 rw [← pow256]
theorem results_row_slot {P : Program} {fn : Func} {p q : Tmp} {ty : TypeId} (h : fn.results = #[.cell p ty, .tmp q]) (tmps : Array Value) (w : World) (g : Nat) (t : TypeId) (cs : Array Value) (fr : Nat × Nat) (d : TypeDesc) (v : Value)
  (hp : tmps.getD p undef = .pointer (some ⟨g, 0, none⟩)) (hg : w.heap[g]? = some (.cells cs t fr))
  (hu : P.underlying ty = some d) (hd : (match d with | .struct _ | .array _ _ => true | _ => false) = true) (hi : (P.info? ty).map (·.size) = some cs.size) (hv : tmps.getD q undef = v) :
  (results fn tmps).run P w = .ok (.tuple #[.agg cs, v]) w := by
 have hp' : tmps[p]?.getD undef = .pointer (some ⟨g, 0, none⟩) := by simpa using hp
 have hv' : tmps[q]?.getD undef = v := by simpa using hv
 simp [results, h, hp', hv', asAddr, run_loadVar_row w g t ty cs fr d hg hu hd hi]
theorem Row.new1 (w : World) (X : Obj) (l : List Value) (T : TypeId) : Row ((w.alloc X).alloc (.cells l.toArray T)) (w.heap.size + 1) T l := heap_alloc2_new _ _ _
theorem Row.new2 (w : World) (X Y : Obj) (l : List Value) (T : TypeId) : Row (((w.alloc X).alloc Y).alloc (.cells l.toArray T)) (w.heap.size + 1 + 1) T l := by
 have h := Row.new ((w.alloc X).alloc Y) l T
 rwa [show ((w.alloc X).alloc Y).heap.size = w.heap.size + 1 + 1 by simp] at h
theorem Row.new3 (w : World) (X Y Z : Obj) (l : List Value) (T : TypeId) : Row ((((w.alloc X).alloc Y).alloc Z).alloc (.cells l.toArray T)) (w.heap.size + 1 + 1 + 1) T l := by
 have h := Row.new (((w.alloc X).alloc Y).alloc Z) l T
 rwa [show (((w.alloc X).alloc Y).alloc Z).heap.size = w.heap.size + 1 + 1 + 1 by simp] at h
theorem Below.alloc2 (w : World) (X Y : Obj) : Below w.heap.size w ((w.alloc X).alloc Y) := ((Below.refl _ _).alloc (Nat.le_refl _) _).alloc (by simp) _
theorem Below.alloc3 (w : World) (X Y Z : Obj) : Below w.heap.size w (((w.alloc X).alloc Y).alloc Z) := (Below.alloc2 w X Y).alloc (by simp; omega) _
theorem Below.alloc4 (w : World) (X Y Z V : Obj) : Below w.heap.size w ((((w.alloc X).alloc Y).alloc Z).alloc V) := (Below.alloc3 w X Y Z).alloc (by simp; omega) _
theorem Row.setRow {w : World} {g : Nat} {T : TypeId} {l : List Value} (h : Row w g T l) (m : List Value) : Row (w.setRow g m.toArray) g T m := setRow_heap w g _ _ _ _ h
theorem Row.setRowOther {w : World} {g k : Nat} {T : TypeId} {l : List Value} (h : Row w g T l) (hk : g ≠ k) (m : Array Value) : Row (w.setRow k m) g T l := (setRow_other w k g m hk).trans h
theorem Row.range {w : World} {g : Nat} {T : TypeId} {l : List Value} (h : Row w g T l) : w.rangeAt g 0 l := by
 intro j v hv
 rw [Nat.zero_add]
 exact h.cell hv
theorem By_nat (N n : Nat) : By N n = ((List.range n).map (byt N)).map fun x => .int .u8 ((x : Nat) : Int) := by simp [By, Tabs]
theorem byts_lt (N n : Nat) : ∀ x ∈ (List.range n).map (byt N), x < 256 := by
 intro x hx
 obtain ⟨i, _, rfl⟩ := List.mem_map.1 hx
 exact byt_lt N i
end
section
open Go.RowKit
def dw (N i : Nat) : Nat := N / 4294967296 ^ i % 4294967296
theorem dw_lt (N i : Nat) : dw N i < 4294967296 := Nat.mod_lt _ (by decide)
theorem dw_succ (N i : Nat) : N / 4294967296 ^ i = 4294967296 * (N / 4294967296 ^ (i + 1)) + dw N i := by
 unfold dw
 rw [Nat.pow_succ, ← Nat.div_div_eq_div_mul]
 omega
theorem dw_of_lt {N i : Nat} (h : N < 4294967296 ^ i) : dw N i = 0 := by
 unfold dw
 rw [Nat.div_eq_of_lt h, Nat.zero_mod]
theorem dw_of_lt' {N n i : Nat} (h : N < 4294967296 ^ n) (hi : n ≤ i) : dw N i = 0 := dw_of_lt (Nat.lt_of_lt_of_le h (Nat.pow_le_pow_right (by decide) hi))
theorem cmq_same {A B i : Nat} (h : A / 4294967296 ^ (i + 1) = B / 4294967296 ^ (i + 1)) (he : dw A i = dw B i) : A / 4294967296 ^ i = B / 4294967296 ^ i := by
 rw [dw_succ A, dw_succ B, h, he]
theorem cmq_less {A B i : Nat} (h : A / 4294967296 ^ (i + 1) = B / 4294967296 ^ (i + 1)) (hne : dw A i ≠ dw B i) : decide (dw A i < dw B i) = decide (A < B) := by
 have ha := dw_succ A i
 have hb := dw_succ B i
 rw [h] at ha
 have hlt : ∀ {X Y : Nat}, X / 4294967296 ^ i < Y / 4294967296 ^ i → X < Y := fun {X Y} hq => by
  rcases Nat.lt_or_ge X Y with h1 | h1
  ·exact h1
  ·exact absurd (Nat.div_le_div_right (c := 4294967296 ^ i) h1) (by omega)
 by_cases hl : dw A i < dw B i
 ·rw [decide_eq_true hl, decide_eq_true (hlt (by omega))]
 ·have : B < A := hlt (by omega)
  rw [decide_eq_false hl, decide_eq_false (by omega)]
def brq (A B k : Nat) : Nat := if A % 4294967296 ^ k < B % 4294967296 ^ k then 1 else 0
theorem brq_le (A B k : Nat) : brq A B k ≤ 1 := by unfold brq; split <;> omega
theorem brq_zero (A B : Nat) : brq A B 0 = 0 := by
 unfold brq
 rw [Nat.pow_zero, Nat.mod_one, Nat.mod_one, if_neg (by omega)]
theorem mod_dw (N k : Nat) : N % 4294967296 ^ (k + 1) = N % 4294967296 ^ k + 4294967296 ^ k * dw N k := by
 rw [Nat.pow_succ, Nat.mod_mul]
 rfl
def cyq (A B k : Nat) : Nat := (A % 4294967296 ^ k + B % 4294967296 ^ k) / 4294967296 ^ k
theorem pW (k : Nat) : 0 < 4294967296 ^ k := Nat.pow_pos (by decide)
theorem sum_dw (A B k : Nat) : dw A k + dw B k + cyq A B k = dw (A + B) k + 4294967296 * cyq A B (k + 1) := by
 have e : (A + B) / 4294967296 ^ k = cyq A B k + A / 4294967296 ^ k + B / 4294967296 ^ k := by
  have h1 : A + B = A % 4294967296 ^ k + B % 4294967296 ^ k + 4294967296 ^ k * (A / 4294967296 ^ k + B / 4294967296 ^ k) := by
   rw [Nat.mul_add]
   have := Nat.mod_add_div A (4294967296 ^ k)
   have := Nat.mod_add_div B (4294967296 ^ k)
   omega
  rw [h1, Nat.add_mul_div_left _ _ (pW k)]
  unfold cyq
  omega
 have e2 : (A + B) / 4294967296 ^ (k + 1) = cyq A B (k + 1) + A / 4294967296 ^ (k + 1) + B / 4294967296 ^ (k + 1) := by
  have h1 : A + B = A % 4294967296 ^ (k + 1) + B % 4294967296 ^ (k + 1) + 4294967296 ^ (k + 1) * (A / 4294967296 ^ (k + 1) + B / 4294967296 ^ (k + 1)) := by
   rw [Nat.mul_add]
   have := Nat.mod_add_div A (4294967296 ^ (k + 1))
   have := Nat.mod_add_div B (4294967296 ^ (k + 1))
   omega
  rw [h1, Nat.add_mul_div_left _ _ (pW (k + 1))]
  unfold cyq
  omega
 have h3 := dw_succ (A + B) k
 have h4 := dw_succ A k
 have h5 := dw_succ B k
 omega
theorem dif_dw {A B D : Nat} (h : D + B = A) (k : Nat) : dw D k + dw B k + brq A B k = dw A k + 4294967296 * brq A B (k + 1) := by
 have hc : ∀ j, cyq D B j = brq A B j := fun j => by
  subst h
  unfold cyq brq
  have ha := Nat.mod_lt D (pW j)
  have hb := Nat.mod_lt B (pW j)
  rw [Nat.add_mod]
  generalize D % 4294967296 ^ j = d at *
  generalize B % 4294967296 ^ j = b at *
  generalize 4294967296 ^ j = m at *
  by_cases hlt : d + b < m
  ·rw [Nat.mod_eq_of_lt hlt, Nat.div_eq_of_lt hlt, if_neg (by omega)]
  ·have e : d + b = (d + b - m) + m := by omega
   have e1 : (d + b) % m = d + b - m := by rw [e, Nat.add_mod_right, Nat.mod_eq_of_lt (by omega)]; omega
   have e2 : (d + b) / m = 1 := by rw [e, Nat.add_div_right _ (by omega), Nat.div_eq_of_lt (by omega)]
   rw [e1, e2, if_pos (by omega)]
 have hs := sum_dw D B k
 rw [hc, hc, h] at hs
 exact hs
def mixq (D A k i : Nat) : Nat := if i < k then dw D i else dw A i
theorem mixq_zero (D A n : Nat) : Tabs .u32 (mixq D A 0) n = Tabs .u32 (dw A) n := Tabs_congr _ fun i _ => by unfold mixq; rw [if_neg (by omega)]
theorem mixq_all (D A n : Nat) : Tabs .u32 (mixq D A n) n = Tabs .u32 (dw D) n := Tabs_congr _ fun i h => by unfold mixq; rw [if_pos h]
theorem Tabs_snoc (K : IntKind) (f : Nat → Nat) (n : Nat) : Tabs K f (n + 1) = Tabs K f n ++ [.int K ((f n : Nat) : Int)] := by
 unfold Tabs
 rw [List.range_succ, List.map_append]
 rfl
theorem Tabs_ones (K : IntKind) (f : Nat → Nat) (n : Nat) : ∀ u ∈ Tabs K f n, u.oneCell' = true := by
 intro v hv
 simp only [Tabs, List.mem_map] at hv
 obtain ⟨i, _, rfl⟩ := hv
 rfl
end
end
theorem byt_lev : ∀ (l : List Nat), (∀ c ∈ l, c < 256) → ∀ i, i < l.length → byt (lev l) i = l.getD i 0
 | [], _, i, h => absurd h (by simp)
 | c :: l, h, 0, _ => by
  have hc := h c (List.mem_cons_self ..)
  show (c + 256 * lev l) / 2 ^ (8 * 0) % 256 = c
  rw [show 2 ^ (8 * 0) = 1 from rfl]
  omega
 | c :: l, h, i + 1, hi => by
  have hc := h c (List.mem_cons_self ..)
  have ih := byt_lev l (fun x hx => h x (List.mem_cons_of_mem _ hx)) i (by simpa using hi)
  have e : byt (c + 256 * lev l) (i + 1) = byt (lev l) i := by
   unfold byt
   have : 2 ^ (8 * (i + 1)) = 256 * 2 ^ (8 * i) := by rw [Nat.mul_add, Nat.pow_add, Nat.mul_comm]
   rw [this, ← Nat.div_div_eq_div_mul]
   congr 2
   omega
  show byt (c + 256 * lev l) (i + 1) = _
  rw [e, ih]
  rfl
theorem By_lev {l : List Nat} (h : ∀ c ∈ l, c < 256) {n : Nat} (hl : l.length = n) : By (lev l) n = l.map fun x => .int .u8 ((x : Nat) : Int) := by
 refine (By_ext (lev l) n (by rw [List.length_map, hl]) fun k hk => ?_).symm
 rw [byt_lev l h k (by omega), List.getElem?_map, List.getD, List.getElem?_eq_getElem (by omega)]
 rfl
theorem arr_by {zs : List Int} {n : Nat} (hl : zs.length = n) (hw : ∀ z ∈ zs, (Lit.int .u8 z).wf = true) : ∃ N, N < 256 ^ n ∧ (zs.map (Value.int .u8)) = By N n := by
 have hr : ∀ z ∈ zs, 0 ≤ z ∧ z ≤ 255 := fun z hz => by have := bounds_u8 (hw z hz); omega
 have hlt : ∀ c ∈ zs.map Int.toNat, c < 256 := by
  intro c hc
  obtain ⟨z, hz, rfl⟩ := List.mem_map.1 hc
  have := hr z hz
  omega
 have hll : (zs.map Int.toNat).length = n := by rw [List.length_map, hl]
 refine ⟨lev (zs.map Int.toNat), by have := lev_lt hlt; rwa [hll] at this, ?_⟩
 rw [By_lev hlt hll, List.map_map]
 refine List.map_congr_left fun z hz => ?_
 have := hr z hz
 show Value.int .u8 z = .int .u8 ((z.toNat : Nat) : Int)
 congr 1
 omega
theorem By_map (N n : Nat) : By N n = ((List.range n).map (byt N)).map fun x => Value.int .u8 ((x : Nat) : Int) := by unfold By; exact Tabs_map ..
theorem bguard32 : Tryz.prog.eqGuardType Tryz.prog.depth 22 = false := by kernel_rfl
theorem bgrd (op : BinOp) (x y : Operand) (us vs : Array Value) (w : World) : (eqGuard op 22 x y (.agg us) (.agg vs)).run Tryz.prog w = .ok () w := run_eqGuard_agg w op _ x y us vs bguard32
theorem beq_run (N M : Nat) (w : World) : (binOp .eql 22 (.agg (By N 32).toArray) (.agg (By M 32).toArray)).run Tryz.prog w = .ok (.bool (decide (((List.range 32).map (byt N)) = ((List.range 32).map (byt M))))) w := by
 obtain ⟨i, hi⟩ := info_of_underlying Tryz.underlying5
 rw [By_map, By_map]
 exact run_eql_nats w Tryz.underlying22 hi Tryz.underlying5 (by kernel_rfl) _ _ (by simp) (by simp)
theorem By_zero : By 0 32 = List.replicate 32 (.int .u8 0) := by
 refine (By_ext 0 32 (by simp) fun k hk => ?_).symm
 have : byt 0 k = 0 := by unfold byt; rw [Nat.zero_div]
 rw [this, List.getElem?_replicate, if_pos hk]
 rfl
end Go.Proofs.YtnpjecdodhkplaaGreatDoor
