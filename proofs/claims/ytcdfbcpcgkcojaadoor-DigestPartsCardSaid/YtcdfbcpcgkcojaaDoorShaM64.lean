/- What the stream takes byte by byte is what the document reckons block by block. -/
import Derived.Test.YtcdfbcpcgkcojaaDoorEnd64
import Derived.Test.YtcdfbcpcgkcojaaDoorBlkM64
namespace Go.Proofs.YtcdfbcpcgkcojaaDoor
set_option maxRecDepth 100000
open Go.RowKit

/-- Bytes as a number, the highest one first, behind others. -/
def bev64 (x : Nat) : List Nat → Nat
  | [] => x
  | c :: l => bev64 ((x * 256 + c) % 18446744073709551616) l
theorem orbyte64 (x c : Nat) (hc : c < 256) : (x * 256 % 18446744073709551616 ||| c) = (x * 256 + c) % 18446744073709551616 := by
  have e : x * 256 % 18446744073709551616 = 2 ^ 8 * (x % 72057594037927936) := by
    rw [show (18446744073709551616 : Nat) = 72057594037927936 * 256 from rfl, Nat.mul_mod_mul_right]
    omega
  rw [e, ← Nat.two_pow_add_eq_or_of_lt (i := 8) (show c < 2 ^ 8 from hc)]
  have h := Nat.mod_lt x (show 0 < 72057594037927936 by decide)
  omega
theorem bev64_full : ∀ (l : List Nat) (x y : Nat), x % 18446744073709551616 = y % 18446744073709551616 → bev64 x l % 18446744073709551616 = bev64 y l % 18446744073709551616
  | [], _, _, h => h
  | c :: l, x, y, h => by
    show bev64 ((x * 256 + c) % 18446744073709551616) l % 18446744073709551616 = bev64 ((y * 256 + c) % 18446744073709551616) l % 18446744073709551616
    have : (x * 256 + c) % 18446744073709551616 = (y * 256 + c) % 18446744073709551616 := by omega
    rw [this]
/-- Some bytes into one word. -/
theorem fed64_in (s : S8x64) : ∀ (l b : List Nat) (n : Nat), (∀ c ∈ l, c < 256) → n % 8 + l.length < 8 → b.length = 16 →
    fed64 (s, b, n) l = (s, b.set (n / 8 % 16) (bev64 (b.getD (n / 8 % 16) 0) l), n + l.length)
  | [], b, n, _, _, hb => by
    have hi : n / 8 % 16 < b.length := by rw [hb]; exact Nat.mod_lt _ (by decide)
    show (s, b, n) = (s, b.set (n / 8 % 16) (b.getD (n / 8 % 16) 0), n + 0)
    rw [List.getD, List.getElem?_eq_getElem hi]
    simp
  | c :: l, b, n, hl, hn, hb => by
    have hc := hl c (List.mem_cons_self ..)
    simp only [List.length_cons] at hn
    have hi : n / 8 % 16 < b.length := by rw [hb]; exact Nat.mod_lt _ (by decide)
    have e1 : now64 s b n c = s := by unfold now64; rw [if_neg (by omega)]
    have e2 : blk64 b n c = b.set (n / 8 % 16) ((b.getD (n / 8 % 16) 0 * 256 + c) % 18446744073709551616) := by
      unfold blk64
      rw [orbyte64 _ _ hc]
    have hstep : fed64 (s, b, n) (c :: l) = fed64 (now64 s b n c, blk64 b n c, n + 1) l := rfl
    rw [hstep, e1, e2, fed64_in s l _ (n + 1) (fun d hd => hl d (List.mem_cons_of_mem _ hd)) (by omega) (by rw [List.length_set, hb])]
    have e3 : (n + 1) / 8 % 16 = n / 8 % 16 := by omega
    rw [e3]
    have e4 : (b.set (n / 8 % 16) ((b.getD (n / 8 % 16) 0 * 256 + c) % 18446744073709551616)).getD (n / 8 % 16) 0 = (b.getD (n / 8 % 16) 0 * 256 + c) % 18446744073709551616 := by
      rw [List.getD, List.getElem?_set_self hi]
      rfl
    rw [e4, List.set_set]
    simp only [List.length_cons]
    have e5 : n + 1 + l.length = n + (l.length + 1) := by omega
    rw [e5]
    rfl
theorem bev64_snoc (l : List Nat) (c : Nat) : ∀ x, bev64 x (l ++ [c]) = (bev64 x l * 256 + c) % 18446744073709551616 := by
  induction l with
  | nil => intro x; rfl
  | cons d l ih => intro x; exact ih _
/-- A whole word. -/
theorem fed64_word (s : S8x64) (l b : List Nat) (c n : Nat) (hl : ∀ d ∈ l, d < 256) (hc : c < 256) (hll : l.length = 7) (hn : n % 8 = 0) (hb : b.length = 16) :
    fed64 (s, b, n) (l ++ [c]) = (if (n + 8) % 128 = 0 then mxs64 s (b.set (n / 8 % 16) (bev64 (b.getD (n / 8 % 16) 0) (l ++ [c]))) else s, b.set (n / 8 % 16) (bev64 (b.getD (n / 8 % 16) 0) (l ++ [c])), n + 8) := by
  have hi : n / 8 % 16 < b.length := by rw [hb]; exact Nat.mod_lt _ (by decide)
  rw [fed64_snoc, fed64_in s l b n hl (by omega) hb, hll]
  have e3 : (n + 7) / 8 % 16 = n / 8 % 16 := by omega
  have e2 : blk64 (b.set (n / 8 % 16) (bev64 (b.getD (n / 8 % 16) 0) l)) (n + 7) c = b.set (n / 8 % 16) (bev64 (b.getD (n / 8 % 16) 0) (l ++ [c])) := by
    unfold blk64
    rw [e3, orbyte64 _ _ hc, bev64_snoc, List.set_set]
    congr 3
    rw [List.getD, List.getElem?_set_self hi]
    rfl
  simp only []
  rw [e2]
  unfold now64
  rw [e2]

/-- Where a word's old value goes. -/
theorem bev64_new (l : List Nat) (hl : l.length = 8) (x : Nat) : bev64 x l = bev64 0 l := by
  match l, hl with
  | [a0, a1, a2, a3, a4, a5, a6, a7], _ =>
    simp only [bev64]
    omega
/-- A word's bytes, as its number. -/
theorem bev64_wpt (ms : List Nat) (h : ∀ x ∈ ms, x < 256) (i : Nat) (hi : (i + 1) * 8 ≤ ms.length) : bev64 0 ((ms.drop (i * 8)).take 8) = wpt64 ms i 8 := by
  have hl : ((ms.drop (i * 8)).take 8).length = 8 := by rw [List.length_take, List.length_drop]; omega
  have hg : ∀ j, j < 8 → ((ms.drop (i * 8)).take 8)[j]? = some (ms.getD (i * 8 + j) 0) := by
    intro j hj
    rw [List.getElem?_take, if_pos hj, List.getElem?_drop, List.getD, List.getElem?_eq_getElem (by omega)]
    rfl
  generalize (ms.drop (i * 8)).take 8 = l at *
  match l, hl with
  | [a0, a1, a2, a3, a4, a5, a6, a7], _ =>
    have q0 : a0 = ms.getD (i * 8 + 0) 0 := Option.some.inj (hg 0 (by decide))
    have q1 : a1 = ms.getD (i * 8 + 1) 0 := Option.some.inj (hg 1 (by decide))
    have q2 : a2 = ms.getD (i * 8 + 2) 0 := Option.some.inj (hg 2 (by decide))
    have q3 : a3 = ms.getD (i * 8 + 3) 0 := Option.some.inj (hg 3 (by decide))
    have q4 : a4 = ms.getD (i * 8 + 4) 0 := Option.some.inj (hg 4 (by decide))
    have q5 : a5 = ms.getD (i * 8 + 5) 0 := Option.some.inj (hg 5 (by decide))
    have q6 : a6 = ms.getD (i * 8 + 6) 0 := Option.some.inj (hg 6 (by decide))
    have q7 : a7 = ms.getD (i * 8 + 7) 0 := Option.some.inj (hg 7 (by decide))
    show _ = ((((((((0 * 256 + ms.getD (i * 8 + 0) 0) * 256 + ms.getD (i * 8 + 1) 0) * 256 + ms.getD (i * 8 + 2) 0) * 256 + ms.getD (i * 8 + 3) 0) * 256 + ms.getD (i * 8 + 4) 0) * 256 + ms.getD (i * 8 + 5) 0) * 256 + ms.getD (i * 8 + 6) 0) * 256 + ms.getD (i * 8 + 7) 0)
    simp only [bev64]
    have r0 := getD256 h (i * 8 + 0)
    have r1 := getD256 h (i * 8 + 1)
    have r2 := getD256 h (i * 8 + 2)
    have r3 := getD256 h (i * 8 + 3)
    have r4 := getD256 h (i * 8 + 4)
    have r5 := getD256 h (i * 8 + 5)
    have r6 := getD256 h (i * 8 + 6)
    have r7 := getD256 h (i * 8 + 7)
    generalize ms.getD (i * 8 + 0) 0 = z0 at *
    generalize ms.getD (i * 8 + 1) 0 = z1 at *
    generalize ms.getD (i * 8 + 2) 0 = z2 at *
    generalize ms.getD (i * 8 + 3) 0 = z3 at *
    generalize ms.getD (i * 8 + 4) 0 = z4 at *
    generalize ms.getD (i * 8 + 5) 0 = z5 at *
    generalize ms.getD (i * 8 + 6) 0 = z6 at *
    generalize ms.getD (i * 8 + 7) 0 = z7 at *
    omega
theorem chunk64 (ms : List Nat) (i : Nat) : ms.take ((i + 1) * 8) = ms.take (i * 8) ++ (ms.drop (i * 8)).take 8 := by
  rw [show (i + 1) * 8 = i * 8 + 8 by omega, List.take_add]
theorem splitlast64 (l : List Nat) (hl : l.length = 8) : ∃ l' c, l = l' ++ [c] ∧ l'.length = 7 := by
  match l, hl with
  | [a0, a1, a2, a3, a4, a5, a6, a7], _ => exact ⟨[a0, a1, a2, a3, a4, a5, a6], a7, rfl, rfl⟩
/-- Words, one behind the other. -/
theorem fed64_words (s : S8x64) (ms b : List Nat) (n : Nat) (h : ∀ x ∈ ms, x < 256) (hl : ms.length = 128) (hb : b.length = 16) (hn : n % 128 = 0) : ∀ i, i ≤ 16 →
    fed64 (s, b, n) (ms.take (i * 8)) = (if i = 16 then mxs64 s (wds64 ms) else s, (wds64 ms).take i ++ b.drop i, n + i * 8)
  | 0, _ => by simp [fed64]
  | i + 1, hi => by
    have ih := fed64_words s ms b n h hl hb hn i (by omega)
    have hc : (i + 1) * 8 ≤ ms.length := by omega
    rw [chunk64 ms i, fed64_append, ih, if_neg (by omega)]
    have hcl : ((ms.drop (i * 8)).take 8).length = 8 := by rw [List.length_take, List.length_drop]; omega
    have hval := bev64_wpt ms h i hc
    have hcb : ∀ x ∈ (ms.drop (i * 8)).take 8, x < 256 := fun x hx => h x (List.mem_of_mem_drop (List.mem_of_mem_take hx))
    obtain ⟨l', c, e, hl'⟩ := splitlast64 _ hcl
    have hbl : ((wds64 ms).take i ++ b.drop i).length = 16 := by rw [List.length_append, List.length_take, List.length_drop, wds64_len, hb]; omega
    have hidx : (n + i * 8) / 8 % 16 = i := by omega
    have hnew : ∀ x, bev64 x ((ms.drop (i * 8)).take 8) = wpt64 ms i 8 := fun x => by rw [bev64_new _ hcl x, hval]
    rw [e] at hnew hcb
    rw [e, fed64_word s l' _ c _ (fun d hd => hcb d (List.mem_append_left _ hd)) (hcb c (by simp)) hl' (by omega) hbl, hidx, hnew]
    have hset : ((wds64 ms).take i ++ b.drop i).set i (wpt64 ms i 8) = (wds64 ms).take (i + 1) ++ b.drop (i + 1) := by
      have h1 : ((wds64 ms).take i).length = i := by rw [List.length_take, wds64_len]; omega
      have h2 : i < (wds64 ms).length := by rw [wds64_len]; omega
      have h3 : i < b.length := by omega
      rw [List.set_append_right _ _ (by omega), h1, Nat.sub_self, List.drop_eq_getElem_cons h3, List.set_cons_zero, List.take_add_one, List.getElem?_eq_getElem h2, List.append_assoc]
      have h4 : (wds64 ms)[i] = wpt64 ms i 8 := by
        have := wds64_get ms (i := i) (by omega)
        rw [List.getD, List.getElem?_eq_getElem h2] at this
        exact this
      rw [h4]
      rfl
    rw [hset]
    by_cases h15 : i = 15
    · subst h15
      have hw : (wds64 ms).take 16 ++ b.drop 16 = wds64 ms := by
        rw [List.drop_eq_nil_of_le (by omega), List.append_nil, List.take_of_length_le (by rw [wds64_len]; exact Nat.le_refl _)]
      rw [if_pos (by omega), if_pos rfl, hw]
    · rw [if_neg (by omega), if_neg (by omega)]
      congr 2
      omega
/-- A whole block. -/
theorem fed64_block (s : S8x64) (ms b : List Nat) (n : Nat) (h : ∀ x ∈ ms, x < 256) (hl : ms.length = 128) (hb : b.length = 16) (hn : n % 128 = 0) : fed64 (s, b, n) ms = (mxs64 s (wds64 ms), wds64 ms, n + 128) := by
  have h1 := fed64_words s ms b n h hl hb hn 16 (Nat.le_refl _)
  rw [List.take_of_length_le (by omega), if_pos rfl, List.drop_eq_nil_of_le (by omega), List.append_nil, List.take_of_length_le (by rw [wds64_len]; exact Nat.le_refl _)] at h1
  exact h1
/-- Blocks, one behind the other, as the document reckons them. -/
def hf64 : Nat → S8x64 → List Nat → S8x64
  | 0, s, _ => s
  | k + 1, s, m => hf64 k (mxs64 s (wds64 (m.take 128))) (m.drop 128)
theorem hf64_ok : ∀ (k : Nat) (s : S8x64) (m : List Nat), s.ok → (hf64 k s m).ok
  | 0, _, _, h => h
  | k + 1, _, _, _ => hf64_ok k _ _ (mxs64_ok _ _)
theorem fed64_blocks : ∀ (k : Nat) (s : S8x64) (m b : List Nat) (n : Nat), (∀ x ∈ m, x < 256) → m.length = k * 128 → b.length = 16 → n % 128 = 0 → (fed64 (s, b, n) m).1 = hf64 k s m
  | 0, s, m, b, n, _, hl, _, _ => by
    obtain rfl : m = [] := List.eq_nil_of_length_eq_zero (by omega)
    rfl
  | k + 1, s, m, b, n, h, hl, hb, hn => by
    have e : m = m.take 128 ++ m.drop 128 := (List.take_append_drop _ _).symm
    have h1 : (m.take 128).length = 128 := by rw [List.length_take]; omega
    conv => lhs; rw [e]
    rw [fed64_append, fed64_block s _ b n (fun x hx => h x (List.mem_of_mem_take hx)) h1 hb hn, fed64_blocks k _ _ _ _ (fun x hx => h x (List.mem_of_mem_drop hx)) (by rw [List.length_drop]; omega) (wds64_len _) (by omega)]
    rfl

/-- How many bits there are, as bytes; what stands behind a text; the whole. -/
def ln64 (n : Nat) : List Nat := [0, 0, 0, 0, 0, 0, 0, 0, n * 8 / 72057594037927936 % 256, n * 8 / 281474976710656 % 256, n * 8 / 1099511627776 % 256, n * 8 / 4294967296 % 256, n * 8 / 16777216 % 256, n * 8 / 65536 % 256, n * 8 / 256 % 256, n * 8 / 1 % 256]
def msg64 (xs : List Nat) : List Nat := xs ++ (128 :: List.replicate (pad64 xs.length) 0) ++ ln64 xs.length
theorem ln64_len (n : Nat) : (ln64 n).length = 16 := rfl
theorem ln64_lt (n : Nat) : ∀ x ∈ ln64 n, x < 256 := by
  intro x hx
  simp only [ln64, List.mem_cons, List.not_mem_nil, or_false] at hx
  omega
theorem msg64_lt {xs : List Nat} (h : ∀ x ∈ xs, x < 256) : ∀ x ∈ msg64 xs, x < 256 := by
  intro x hx
  rcases List.mem_append.1 hx with hx | hx
  · rcases List.mem_append.1 hx with hx | hx
    · exact h x hx
    · rcases List.mem_cons.1 hx with rfl | hx
      · decide
      · rw [List.eq_of_mem_replicate hx]; decide
  · exact ln64_lt _ x hx
theorem msg64_len (xs : List Nat) : (msg64 xs).length = xs.length + 1 + pad64 xs.length + 16 := by
  unfold msg64
  rw [List.length_append, List.length_append, ln64_len]
  simp
  omega
theorem msg64_mod (xs : List Nat) : (msg64 xs).length % 128 = 0 := by
  rw [msg64_len]
  have := pad64_hit xs.length
  omega
set_option maxHeartbeats 2000000 in
theorem ln64_tell (s : S8x64) (b : List Nat) (N n : Nat) (hb : b.length = 16) (hN : N % 128 = 112) (hn : n < 1152921504606846976) : (fed64 (s, b, N) (ln64 n)).1 = mxs64 s ((b.set 14 (hi64 n)).set 15 (lo64 n)) := by
  have e : ln64 n = ([0, 0, 0, 0, 0, 0, 0] ++ [0]) ++ ([n * 8 / 72057594037927936 % 256, n * 8 / 281474976710656 % 256, n * 8 / 1099511627776 % 256, n * 8 / 4294967296 % 256, n * 8 / 16777216 % 256, n * 8 / 65536 % 256, n * 8 / 256 % 256] ++ [n * 8 / 1 % 256]) := rfl
  have hlt := ln64_lt n
  rw [e] at hlt ⊢
  rw [fed64_append, fed64_word s _ b _ N (fun d hd => hlt d (List.mem_append_left _ (List.mem_append_left _ hd))) (hlt _ (by simp)) rfl (by omega) hb, if_neg (by omega)]
  have i1 : N / 8 % 16 = 14 := by omega
  rw [i1, bev64_new _ rfl]
  have hv1 : bev64 0 ([0, 0, 0, 0, 0, 0, 0] ++ [0]) = hi64 n := by
    unfold hi64
    simp only [List.cons_append, List.nil_append, bev64]
    omega
  rw [hv1, fed64_word s _ _ _ _ (fun d hd => hlt d (List.mem_append_right _ (List.mem_append_left _ hd))) (hlt _ (by simp)) rfl (by omega) (by rw [List.length_set, hb]), if_pos (by omega)]
  have i2 : (N + 8) / 8 % 16 = 15 := by omega
  rw [i2, bev64_new _ rfl]
  have hv2 : bev64 0 ([n * 8 / 72057594037927936 % 256, n * 8 / 281474976710656 % 256, n * 8 / 1099511627776 % 256, n * 8 / 4294967296 % 256, n * 8 / 16777216 % 256, n * 8 / 65536 % 256, n * 8 / 256 % 256] ++ [n * 8 / 1 % 256]) = lo64 n := by
    unfold lo64
    simp only [List.cons_append, List.nil_append, bev64]
    omega
  rw [hv2]
/-- The stream's sum is the document's. -/
theorem fnl64_doc {xs : List Nat} (h : ∀ x ∈ xs, x < 256) (hn : xs.length < 1152921504606846976) : fnl64 (fed64 beg64 xs) = hf64 ((msg64 xs).length / 128) ini64 (msg64 xs) := by
  have hsz : (fed64 beg64 xs).2.2 = xs.length := by rw [fed64_size]; show 0 + _ = _; omega
  have hgd : Gd64 (fed64 beg64 xs) := beg64_good.fed h
  have hl := lst64_good hgd (pad64 xs.length)
  have hls := lst64_size (fed64 beg64 xs) (pad64 xs.length)
  rw [hsz] at hls
  have hmod : (lst64 (fed64 beg64 xs) (pad64 xs.length)).2.2 % 128 = 112 := by rw [hls]; exact pad64_hit _
  have ht := ln64_tell (lst64 (fed64 beg64 xs) (pad64 xs.length)).1 (lst64 (fed64 beg64 xs) (pad64 xs.length)).2.1 (lst64 (fed64 beg64 xs) (pad64 xs.length)).2.2 xs.length hl.len hmod hn
  have e1 : fnl64 (fed64 beg64 xs) = (fed64 (lst64 (fed64 beg64 xs) (pad64 xs.length)) (ln64 xs.length)).1 := by
    unfold fnl64 fbl64
    rw [hsz]
    exact ht.symm
  have e2 : fed64 (lst64 (fed64 beg64 xs) (pad64 xs.length)) (ln64 xs.length) = fed64 beg64 (msg64 xs) := by
    unfold lst64 msg64
    rw [fed64_append, fed64_append]
  rw [e1, e2]
  have hmm := msg64_mod xs
  exact fed64_blocks _ ini64 (msg64 xs) (List.replicate 16 0) 0 (msg64_lt h) (by omega) (by simp) rfl

end Go.Proofs.YtcdfbcpcgkcojaaDoor
