/- A block, as the document reckons it: its words, one for each round. -/
import Derived.Test.YtcdfbcpcgkcojaaDoorKind64
import Derived.Test.YtcdfbcpcgkcojaaDoorPut64
namespace Go.Proofs.YtcdfbcpcgkcojaaDoor
set_option maxRecDepth 100000
open Go.RowKit

theorem exp64_take (l : List Nat) : ∀ (n m : Nat), m ≤ n → (exp64 n l).take (l.length + m) = exp64 m l
  | 0, m, h => by
    obtain rfl : m = 0 := by omega
    exact List.take_of_length_le (by simp [exp64])
  | n + 1, m, h => by
    by_cases e : m = n + 1
    · subst e
      exact List.take_of_length_le (Nat.le_of_eq (exp64_length _ _))
    · rw [show exp64 (n + 1) l = exp64 n l ++ [nxt64 (exp64 n l)] from rfl, List.take_append_of_le_length (by rw [exp64_length]; omega)]
      exact exp64_take l n m (by omega)
/-- All words of a block. -/
def ful64 (b : List Nat) : List Nat := exp64 64 b
theorem ful64_len {b : List Nat} (hb : b.length = 16) : (ful64 b).length = 80 := by unfold ful64; rw [exp64_length, hb]
theorem ful64_lt {b : List Nat} (h : ∀ x ∈ b, x < 18446744073709551616) : ∀ x ∈ ful64 b, x < 18446744073709551616 := exp64_lt h 64
theorem ful64_at {b : List Nat} (h : ∀ x ∈ b, x < 18446744073709551616) (i : Nat) : (ful64 b).getD i 0 < 18446744073709551616 := by
  rw [List.getD]
  cases e : (ful64 b)[i]? with
  | none => decide
  | some v => exact ful64_lt h v (List.mem_of_getElem? e)
theorem ful64_succ {b : List Nat} (hb : b.length = 16) {i : Nat} (hi : i < 80) : (ful64 b).take (i + 1) = (ful64 b).take i ++ [(ful64 b).getD i 0] := by
  have hl : i < (ful64 b).length := by rw [ful64_len hb]; exact hi
  rw [List.take_add_one, List.getD, List.getElem?_eq_getElem hl]
  rfl
theorem ful64_lo {b : List Nat} (hb : b.length = 16) {i : Nat} (hi : i < 16) : (ful64 b).getD i 0 = b.getD i 0 := by
  have h := exp64_take b 64 0 (by omega)
  rw [hb] at h
  have h2 : (ful64 b)[i]? = b[i]? := by
    have := congrArg (fun l => l[i]?) h
    simp only [List.getElem?_take, Nat.add_zero] at this
    rw [if_pos hi] at this
    exact this
  rw [List.getD, h2, List.getD]
theorem ful64_hi {b : List Nat} (hb : b.length = 16) {i : Nat} (h16 : 16 ≤ i) (hi : i < 80) : (ful64 b).getD i 0 = (sml3 64 ((ful64 b).getD (i - 2) 0) 19 61 6 + (ful64 b).getD (i - 7) 0 + sml3 64 ((ful64 b).getD (i - 15) 0) 1 8 7 + (ful64 b).getD (i - 16) 0) % 18446744073709551616 := by
  have h1 := exp64_take b 64 (i - 16) (by omega)
  have h2 := exp64_take b 64 (i - 16 + 1) (by omega)
  rw [hb] at h1 h2
  rw [show 16 + (i - 16) = i by omega] at h1
  rw [show 16 + (i - 16 + 1) = i + 1 by omega, show exp64 (i - 16 + 1) b = exp64 (i - 16) b ++ [nxt64 (exp64 (i - 16) b)] from rfl, ← h1] at h2
  have hs := ful64_succ hb hi
  have e := hs.symm.trans h2
  have hx := List.append_cancel_left e
  have hv : (ful64 b).getD i 0 = nxt64 ((ful64 b).take i) := (List.cons.inj hx).1
  have hl : ((ful64 b).take i).length = i := by rw [List.length_take, ful64_len hb]; omega
  have hg : ∀ k, k < i → ((ful64 b).take i).getD k 0 = (ful64 b).getD k 0 := fun k hk => by rw [List.getD, List.getElem?_take, if_pos hk, List.getD]
  rw [hv]
  unfold nxt64
  rw [hl, hg _ (by omega), hg _ (by omega), hg _ (by omega), hg _ (by omega)]

/-- The first bytes of a word, as a number; the words of bytes. -/
def wpt64 (ms : List Nat) (i : Nat) : Nat → Nat
  | 0 => 0
  | j + 1 => wpt64 ms i j * 256 + ms.getD (i * 8 + j) 0
theorem getD256 {ms : List Nat} (h : ∀ x ∈ ms, x < 256) (k : Nat) : ms.getD k 0 < 256 := by
  rw [List.getD]
  cases e : ms[k]? with
  | none => decide
  | some v => exact h v (List.mem_of_getElem? e)
theorem wpt64_lt {ms : List Nat} (h : ∀ x ∈ ms, x < 256) (i : Nat) : ∀ j, wpt64 ms i j < 256 ^ j
  | 0 => Nat.one_pos
  | j + 1 => by
    have h1 := wpt64_lt h i j
    have h2 := getD256 h (i * 8 + j)
    rw [Nat.pow_succ]
    unfold wpt64
    omega
def wds64 (ms : List Nat) : List Nat := (List.range 16).map fun i => wpt64 ms i 8
theorem wds64_len (ms : List Nat) : (wds64 ms).length = 16 := by simp [wds64]
theorem wds64_get (ms : List Nat) {i : Nat} (hi : i < 16) : (wds64 ms).getD i 0 = wpt64 ms i 8 := by simp [wds64, List.getD, hi]
theorem wds64_lt {ms : List Nat} (h : ∀ x ∈ ms, x < 256) : ∀ x ∈ wds64 ms, x < 18446744073709551616 := by
  intro x hx
  simp only [wds64, List.mem_map] at hx
  obtain ⟨i, _, rfl⟩ := hx
  exact wpt64_lt h i 8

/-- The state behind so many rounds, as the document reckons. -/
def rst64 (s : S8x64) (b : List Nat) (i : Nat) : S8x64 := rns64 (fun i => rc64.getD i 0) (fun i => (ful64 b).getD i 0) i s
theorem rst64_succ (s : S8x64) (b : List Nat) (i : Nat) : rst64 s b (i + 1) = rnd64 (rst64 s b i) (rc64.getD i 0) ((ful64 b).getD i 0) := rfl
theorem rc64_lt (i : Nat) : rc64.getD i 0 < 18446744073709551616 := by
  by_cases h : i < 80
  · rw [rc64_eq i h]
    have := k64_get i
    exact Nat.div_lt_of_lt_mul (Nat.lt_of_lt_of_le this (by decide))
  · rw [List.getD, List.getElem?_eq_none (by rw [rc64_len]; omega)]
    decide
theorem rns64_congr {K K' W W' : Nat → Nat} (s : S8x64) : ∀ {n : Nat}, (∀ i, i < n → K i = K' i ∧ W i = W' i) → rns64 K W n s = rns64 K' W' n s
  | 0, _ => rfl
  | n + 1, h => by
    show rnd64 (rns64 K W n s) (K n) (W n) = rnd64 (rns64 K' W' n s) (K' n) (W' n)
    rw [rns64_congr s (fun i hi => h i (by omega)), (h n (by omega)).1, (h n (by omega)).2]
theorem rst64_eq (s : S8x64) {b : List Nat} (hb : b.length = 16) : rst64 s b 80 = gone64 s b 80 := by
  unfold rst64 gone64
  refine rns64_congr s fun i hi => ⟨rc64_eq i hi, ?_⟩
  have hl : i < (ful64 b).length := by rw [ful64_len hb]; exact hi
  show (ful64 b).getD i 0 = (ws64 b).getD i 0
  have e : ws64 b = ful64 b := by unfold ws64 ful64; exact List.append_nil _
  rw [e]

end Go.Proofs.YtcdfbcpcgkcojaaDoor
