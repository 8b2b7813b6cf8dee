/- A block, as the document reckons it: its words, one for each round. -/
import Derived.Test.YtcdfbcpcgkcojaaDoorKind32
import Derived.Test.YtcdfbcpcgkcojaaDoorPut32
namespace Go.Proofs.YtcdfbcpcgkcojaaDoor
set_option maxRecDepth 100000
open Go.RowKit

theorem exp32_take (l : List Nat) : ∀ (n m : Nat), m ≤ n → (exp32 n l).take (l.length + m) = exp32 m l
  | 0, m, h => by
    obtain rfl : m = 0 := by omega
    exact List.take_of_length_le (by simp [exp32])
  | n + 1, m, h => by
    by_cases e : m = n + 1
    · subst e
      exact List.take_of_length_le (Nat.le_of_eq (exp32_length _ _))
    · rw [show exp32 (n + 1) l = exp32 n l ++ [nxt32 (exp32 n l)] from rfl, List.take_append_of_le_length (by rw [exp32_length]; omega)]
      exact exp32_take l n m (by omega)
/-- All words of a block. -/
def ful32 (b : List Nat) : List Nat := exp32 48 b
theorem ful32_len {b : List Nat} (hb : b.length = 16) : (ful32 b).length = 64 := by unfold ful32; rw [exp32_length, hb]
theorem ful32_lt {b : List Nat} (h : ∀ x ∈ b, x < 4294967296) : ∀ x ∈ ful32 b, x < 4294967296 := exp32_lt h 48
theorem ful32_at {b : List Nat} (h : ∀ x ∈ b, x < 4294967296) (i : Nat) : (ful32 b).getD i 0 < 4294967296 := by
  rw [List.getD]
  cases e : (ful32 b)[i]? with
  | none => decide
  | some v => exact ful32_lt h v (List.mem_of_getElem? e)
theorem ful32_succ {b : List Nat} (hb : b.length = 16) {i : Nat} (hi : i < 64) : (ful32 b).take (i + 1) = (ful32 b).take i ++ [(ful32 b).getD i 0] := by
  have hl : i < (ful32 b).length := by rw [ful32_len hb]; exact hi
  rw [List.take_add_one, List.getD, List.getElem?_eq_getElem hl]
  rfl
theorem ful32_lo {b : List Nat} (hb : b.length = 16) {i : Nat} (hi : i < 16) : (ful32 b).getD i 0 = b.getD i 0 := by
  have h := exp32_take b 48 0 (by omega)
  rw [hb] at h
  have h2 : (ful32 b)[i]? = b[i]? := by
    have := congrArg (fun l => l[i]?) h
    simp only [List.getElem?_take, Nat.add_zero] at this
    rw [if_pos hi] at this
    exact this
  rw [List.getD, h2, List.getD]
theorem ful32_hi {b : List Nat} (hb : b.length = 16) {i : Nat} (h16 : 16 ≤ i) (hi : i < 64) : (ful32 b).getD i 0 = (sml3 32 ((ful32 b).getD (i - 2) 0) 17 19 10 + (ful32 b).getD (i - 7) 0 + sml3 32 ((ful32 b).getD (i - 15) 0) 7 18 3 + (ful32 b).getD (i - 16) 0) % 4294967296 := by
  have h1 := exp32_take b 48 (i - 16) (by omega)
  have h2 := exp32_take b 48 (i - 16 + 1) (by omega)
  rw [hb] at h1 h2
  rw [show 16 + (i - 16) = i by omega] at h1
  rw [show 16 + (i - 16 + 1) = i + 1 by omega, show exp32 (i - 16 + 1) b = exp32 (i - 16) b ++ [nxt32 (exp32 (i - 16) b)] from rfl, ← h1] at h2
  have hs := ful32_succ hb hi
  have e := hs.symm.trans h2
  have hx := List.append_cancel_left e
  have hv : (ful32 b).getD i 0 = nxt32 ((ful32 b).take i) := (List.cons.inj hx).1
  have hl : ((ful32 b).take i).length = i := by rw [List.length_take, ful32_len hb]; omega
  have hg : ∀ k, k < i → ((ful32 b).take i).getD k 0 = (ful32 b).getD k 0 := fun k hk => by rw [List.getD, List.getElem?_take, if_pos hk, List.getD]
  rw [hv]
  unfold nxt32
  rw [hl, hg _ (by omega), hg _ (by omega), hg _ (by omega), hg _ (by omega)]

/-- The first bytes of a word, as a number; the words of bytes. -/
def wpt32 (ms : List Nat) (i : Nat) : Nat → Nat
  | 0 => 0
  | j + 1 => wpt32 ms i j * 256 + ms.getD (i * 4 + j) 0
theorem getD256 {ms : List Nat} (h : ∀ x ∈ ms, x < 256) (k : Nat) : ms.getD k 0 < 256 := by
  rw [List.getD]
  cases e : ms[k]? with
  | none => decide
  | some v => exact h v (List.mem_of_getElem? e)
theorem wpt32_lt {ms : List Nat} (h : ∀ x ∈ ms, x < 256) (i : Nat) : ∀ j, wpt32 ms i j < 256 ^ j
  | 0 => Nat.one_pos
  | j + 1 => by
    have h1 := wpt32_lt h i j
    have h2 := getD256 h (i * 4 + j)
    rw [Nat.pow_succ]
    unfold wpt32
    omega
def wds32 (ms : List Nat) : List Nat := (List.range 16).map fun i => wpt32 ms i 4
theorem wds32_len (ms : List Nat) : (wds32 ms).length = 16 := by simp [wds32]
theorem wds32_get (ms : List Nat) {i : Nat} (hi : i < 16) : (wds32 ms).getD i 0 = wpt32 ms i 4 := by simp [wds32, List.getD, hi]
theorem wds32_lt {ms : List Nat} (h : ∀ x ∈ ms, x < 256) : ∀ x ∈ wds32 ms, x < 4294967296 := by
  intro x hx
  simp only [wds32, List.mem_map] at hx
  obtain ⟨i, _, rfl⟩ := hx
  exact wpt32_lt h i 4

/-- The state behind so many rounds, as the document reckons. -/
def rst32 (s : S8x32) (b : List Nat) (i : Nat) : S8x32 := rns32 (fun i => rc32.getD i 0) (fun i => (ful32 b).getD i 0) i s
theorem rst32_succ (s : S8x32) (b : List Nat) (i : Nat) : rst32 s b (i + 1) = rnd32 (rst32 s b i) (rc32.getD i 0) ((ful32 b).getD i 0) := rfl
theorem rc32_lt (i : Nat) : rc32.getD i 0 < 4294967296 := by
  by_cases h : i < 64
  · rw [rc32_eq i h]
    have := k32_get i
    exact Nat.div_lt_of_lt_mul (Nat.lt_of_lt_of_le this (by decide))
  · rw [List.getD, List.getElem?_eq_none (by rw [rc32_len]; omega)]
    decide
theorem rns32_congr {K K' W W' : Nat → Nat} (s : S8x32) : ∀ {n : Nat}, (∀ i, i < n → K i = K' i ∧ W i = W' i) → rns32 K W n s = rns32 K' W' n s
  | 0, _ => rfl
  | n + 1, h => by
    show rnd32 (rns32 K W n s) (K n) (W n) = rnd32 (rns32 K' W' n s) (K' n) (W' n)
    rw [rns32_congr s (fun i hi => h i (by omega)), (h n (by omega)).1, (h n (by omega)).2]
theorem rst32_eq (s : S8x32) {b : List Nat} (hb : b.length = 16) : rst32 s b 64 = gone32 s b 64 := by
  unfold rst32 gone32
  refine rns32_congr s fun i hi => ⟨rc32_eq i hi, ?_⟩
  have hl : i < (ful32 b).length := by rw [ful32_len hb]; exact hi
  show (ful32 b).getD i 0 = (exp32 48 b ++ List.replicate 16 0).getD i 0
  rw [List.getD, List.getD, List.getElem?_append_left (by rw [exp32_length, hb]; exact hi)]
  rfl

end Go.Proofs.YtcdfbcpcgkcojaaDoor
