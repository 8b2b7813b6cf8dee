/- What the stream takes byte by byte is what the document reckons block by block. -/
import Derived.Test.YtcdfbcpcgkcojaaDoorEnd32
import Derived.Test.YtcdfbcpcgkcojaaDoorBlkM32
namespace Go.Proofs.YtcdfbcpcgkcojaaDoor
set_option maxRecDepth 100000
open Go.RowKit

/-- Bytes as a number, the highest one first, behind others. -/
def bev32 (x : Nat) : List Nat → Nat
  | [] => x
  | c :: l => bev32 ((x * 256 + c) % 4294967296) l
theorem orbyte32 (x c : Nat) (hc : c < 256) : (x * 256 % 4294967296 ||| c) = (x * 256 + c) % 4294967296 := by
  have e : x * 256 % 4294967296 = 2 ^ 8 * (x % 16777216) := by
    rw [show (4294967296 : Nat) = 16777216 * 256 from rfl, Nat.mul_mod_mul_right]
    omega
  rw [e, ← Nat.two_pow_add_eq_or_of_lt (i := 8) (show c < 2 ^ 8 from hc)]
  have h := Nat.mod_lt x (show 0 < 16777216 by decide)
  omega
theorem bev32_full : ∀ (l : List Nat) (x y : Nat), x % 4294967296 = y % 4294967296 → bev32 x l % 4294967296 = bev32 y l % 4294967296
  | [], _, _, h => h
  | c :: l, x, y, h => by
    show bev32 ((x * 256 + c) % 4294967296) l % 4294967296 = bev32 ((y * 256 + c) % 4294967296) l % 4294967296
    have : (x * 256 + c) % 4294967296 = (y * 256 + c) % 4294967296 := by omega
    rw [this]
/-- Some bytes into one word. -/
theorem fed32_in (s : S8x32) : ∀ (l b : List Nat) (n : Nat), (∀ c ∈ l, c < 256) → n % 4 + l.length < 4 → b.length = 16 →
    fed32 (s, b, n) l = (s, b.set (n / 4 % 16) (bev32 (b.getD (n / 4 % 16) 0) l), n + l.length)
  | [], b, n, _, _, hb => by
    have hi : n / 4 % 16 < b.length := by rw [hb]; exact Nat.mod_lt _ (by decide)
    show (s, b, n) = (s, b.set (n / 4 % 16) (b.getD (n / 4 % 16) 0), n + 0)
    rw [List.getD, List.getElem?_eq_getElem hi]
    simp
  | c :: l, b, n, hl, hn, hb => by
    have hc := hl c (List.mem_cons_self ..)
    simp only [List.length_cons] at hn
    have hi : n / 4 % 16 < b.length := by rw [hb]; exact Nat.mod_lt _ (by decide)
    have e1 : now32 s b n c = s := by unfold now32; rw [if_neg (by omega)]
    have e2 : blk32 b n c = b.set (n / 4 % 16) ((b.getD (n / 4 % 16) 0 * 256 + c) % 4294967296) := by
      unfold blk32
      rw [orbyte32 _ _ hc]
    have hstep : fed32 (s, b, n) (c :: l) = fed32 (now32 s b n c, blk32 b n c, n + 1) l := rfl
    rw [hstep, e1, e2, fed32_in s l _ (n + 1) (fun d hd => hl d (List.mem_cons_of_mem _ hd)) (by omega) (by rw [List.length_set, hb])]
    have e3 : (n + 1) / 4 % 16 = n / 4 % 16 := by omega
    rw [e3]
    have e4 : (b.set (n / 4 % 16) ((b.getD (n / 4 % 16) 0 * 256 + c) % 4294967296)).getD (n / 4 % 16) 0 = (b.getD (n / 4 % 16) 0 * 256 + c) % 4294967296 := by
      rw [List.getD, List.getElem?_set_self hi]
      rfl
    rw [e4, List.set_set]
    simp only [List.length_cons]
    have e5 : n + 1 + l.length = n + (l.length + 1) := by omega
    rw [e5]
    rfl
theorem bev32_snoc (l : List Nat) (c : Nat) : ∀ x, bev32 x (l ++ [c]) = (bev32 x l * 256 + c) % 4294967296 := by
  induction l with
  | nil => intro x; rfl
  | cons d l ih => intro x; exact ih _
/-- A whole word. -/
theorem fed32_word (s : S8x32) (l b : List Nat) (c n : Nat) (hl : ∀ d ∈ l, d < 256) (hc : c < 256) (hll : l.length = 3) (hn : n % 4 = 0) (hb : b.length = 16) :
    fed32 (s, b, n) (l ++ [c]) = (if (n + 4) % 64 = 0 then mxs32 s (b.set (n / 4 % 16) (bev32 (b.getD (n / 4 % 16) 0) (l ++ [c]))) else s, b.set (n / 4 % 16) (bev32 (b.getD (n / 4 % 16) 0) (l ++ [c])), n + 4) := by
  have hi : n / 4 % 16 < b.length := by rw [hb]; exact Nat.mod_lt _ (by decide)
  rw [fed32_snoc, fed32_in s l b n hl (by omega) hb, hll]
  have e3 : (n + 3) / 4 % 16 = n / 4 % 16 := by omega
  have e2 : blk32 (b.set (n / 4 % 16) (bev32 (b.getD (n / 4 % 16) 0) l)) (n + 3) c = b.set (n / 4 % 16) (bev32 (b.getD (n / 4 % 16) 0) (l ++ [c])) := by
    unfold blk32
    rw [e3, orbyte32 _ _ hc, bev32_snoc, List.set_set]
    congr 3
    rw [List.getD, List.getElem?_set_self hi]
    rfl
  simp only []
  rw [e2]
  unfold now32
  rw [e2]

/-- Where a word's old value goes. -/
theorem bev32_new (l : List Nat) (hl : l.length = 4) (x : Nat) : bev32 x l = bev32 0 l := by
  match l, hl with
  | [a0, a1, a2, a3], _ =>
    simp only [bev32]
    omega
/-- A word's bytes, as its number. -/
theorem bev32_wpt (ms : List Nat) (h : ∀ x ∈ ms, x < 256) (i : Nat) (hi : (i + 1) * 4 ≤ ms.length) : bev32 0 ((ms.drop (i * 4)).take 4) = wpt32 ms i 4 := by
  have hl : ((ms.drop (i * 4)).take 4).length = 4 := by rw [List.length_take, List.length_drop]; omega
  have hg : ∀ j, j < 4 → ((ms.drop (i * 4)).take 4)[j]? = some (ms.getD (i * 4 + j) 0) := by
    intro j hj
    rw [List.getElem?_take, if_pos hj, List.getElem?_drop, List.getD, List.getElem?_eq_getElem (by omega)]
    rfl
  generalize (ms.drop (i * 4)).take 4 = l at *
  match l, hl with
  | [a0, a1, a2, a3], _ =>
    have q0 : a0 = ms.getD (i * 4 + 0) 0 := Option.some.inj (hg 0 (by decide))
    have q1 : a1 = ms.getD (i * 4 + 1) 0 := Option.some.inj (hg 1 (by decide))
    have q2 : a2 = ms.getD (i * 4 + 2) 0 := Option.some.inj (hg 2 (by decide))
    have q3 : a3 = ms.getD (i * 4 + 3) 0 := Option.some.inj (hg 3 (by decide))
    show _ = ((((0 * 256 + ms.getD (i * 4 + 0) 0) * 256 + ms.getD (i * 4 + 1) 0) * 256 + ms.getD (i * 4 + 2) 0) * 256 + ms.getD (i * 4 + 3) 0)
    simp only [bev32]
    have r0 := getD256 h (i * 4 + 0)
    have r1 := getD256 h (i * 4 + 1)
    have r2 := getD256 h (i * 4 + 2)
    have r3 := getD256 h (i * 4 + 3)
    generalize ms.getD (i * 4 + 0) 0 = z0 at *
    generalize ms.getD (i * 4 + 1) 0 = z1 at *
    generalize ms.getD (i * 4 + 2) 0 = z2 at *
    generalize ms.getD (i * 4 + 3) 0 = z3 at *
    omega
theorem chunk32 (ms : List Nat) (i : Nat) : ms.take ((i + 1) * 4) = ms.take (i * 4) ++ (ms.drop (i * 4)).take 4 := by
  rw [show (i + 1) * 4 = i * 4 + 4 by omega, List.take_add]
theorem splitlast32 (l : List Nat) (hl : l.length = 4) : ∃ l' c, l = l' ++ [c] ∧ l'.length = 3 := by
  match l, hl with
  | [a0, a1, a2, a3], _ => exact ⟨[a0, a1, a2], a3, rfl, rfl⟩
/-- Words, one behind the other. -/
theorem fed32_words (s : S8x32) (ms b : List Nat) (n : Nat) (h : ∀ x ∈ ms, x < 256) (hl : ms.length = 64) (hb : b.length = 16) (hn : n % 64 = 0) : ∀ i, i ≤ 16 →
    fed32 (s, b, n) (ms.take (i * 4)) = (if i = 16 then mxs32 s (wds32 ms) else s, (wds32 ms).take i ++ b.drop i, n + i * 4)
  | 0, _ => by simp [fed32]
  | i + 1, hi => by
    have ih := fed32_words s ms b n h hl hb hn i (by omega)
    have hc : (i + 1) * 4 ≤ ms.length := by omega
    rw [chunk32 ms i, fed32_append, ih, if_neg (by omega)]
    have hcl : ((ms.drop (i * 4)).take 4).length = 4 := by rw [List.length_take, List.length_drop]; omega
    have hval := bev32_wpt ms h i hc
    have hcb : ∀ x ∈ (ms.drop (i * 4)).take 4, x < 256 := fun x hx => h x (List.mem_of_mem_drop (List.mem_of_mem_take hx))
    obtain ⟨l', c, e, hl'⟩ := splitlast32 _ hcl
    have hbl : ((wds32 ms).take i ++ b.drop i).length = 16 := by rw [List.length_append, List.length_take, List.length_drop, wds32_len, hb]; omega
    have hidx : (n + i * 4) / 4 % 16 = i := by omega
    have hnew : ∀ x, bev32 x ((ms.drop (i * 4)).take 4) = wpt32 ms i 4 := fun x => by rw [bev32_new _ hcl x, hval]
    rw [e] at hnew hcb
    rw [e, fed32_word s l' _ c _ (fun d hd => hcb d (List.mem_append_left _ hd)) (hcb c (by simp)) hl' (by omega) hbl, hidx, hnew]
    have hset : ((wds32 ms).take i ++ b.drop i).set i (wpt32 ms i 4) = (wds32 ms).take (i + 1) ++ b.drop (i + 1) := by
      have h1 : ((wds32 ms).take i).length = i := by rw [List.length_take, wds32_len]; omega
      have h2 : i < (wds32 ms).length := by rw [wds32_len]; omega
      have h3 : i < b.length := by omega
      rw [List.set_append_right _ _ (by omega), h1, Nat.sub_self, List.drop_eq_getElem_cons h3, List.set_cons_zero, List.take_add_one, List.getElem?_eq_getElem h2, List.append_assoc]
      have h4 : (wds32 ms)[i] = wpt32 ms i 4 := by
        have := wds32_get ms (i := i) (by omega)
        rw [List.getD, List.getElem?_eq_getElem h2] at this
        exact this
      rw [h4]
      rfl
    rw [hset]
    by_cases h15 : i = 15
    · subst h15
      have hw : (wds32 ms).take 16 ++ b.drop 16 = wds32 ms := by
        rw [List.drop_eq_nil_of_le (by omega), List.append_nil, List.take_of_length_le (by rw [wds32_len]; exact Nat.le_refl _)]
      rw [if_pos (by omega), if_pos rfl, hw]
    · rw [if_neg (by omega), if_neg (by omega)]
      congr 2
      omega
/-- A whole block. -/
theorem fed32_block (s : S8x32) (ms b : List Nat) (n : Nat) (h : ∀ x ∈ ms, x < 256) (hl : ms.length = 64) (hb : b.length = 16) (hn : n % 64 = 0) : fed32 (s, b, n) ms = (mxs32 s (wds32 ms), wds32 ms, n + 64) := by
  have h1 := fed32_words s ms b n h hl hb hn 16 (Nat.le_refl _)
  rw [List.take_of_length_le (by omega), if_pos rfl, List.drop_eq_nil_of_le (by omega), List.append_nil, List.take_of_length_le (by rw [wds32_len]; exact Nat.le_refl _)] at h1
  exact h1
/-- Blocks, one behind the other, as the document reckons them. -/
def hf32 : Nat → S8x32 → List Nat → S8x32
  | 0, s, _ => s
  | k + 1, s, m => hf32 k (mxs32 s (wds32 (m.take 64))) (m.drop 64)
theorem hf32_ok : ∀ (k : Nat) (s : S8x32) (m : List Nat), s.ok → (hf32 k s m).ok
  | 0, _, _, h => h
  | k + 1, _, _, _ => hf32_ok k _ _ (mxs32_ok _ _)
theorem fed32_blocks : ∀ (k : Nat) (s : S8x32) (m b : List Nat) (n : Nat), (∀ x ∈ m, x < 256) → m.length = k * 64 → b.length = 16 → n % 64 = 0 → (fed32 (s, b, n) m).1 = hf32 k s m
  | 0, s, m, b, n, _, hl, _, _ => by
    obtain rfl : m = [] := List.eq_nil_of_length_eq_zero (by omega)
    rfl
  | k + 1, s, m, b, n, h, hl, hb, hn => by
    have e : m = m.take 64 ++ m.drop 64 := (List.take_append_drop _ _).symm
    have h1 : (m.take 64).length = 64 := by rw [List.length_take]; omega
    conv => lhs; rw [e]
    rw [fed32_append, fed32_block s _ b n (fun x hx => h x (List.mem_of_mem_take hx)) h1 hb hn, fed32_blocks k _ _ _ _ (fun x hx => h x (List.mem_of_mem_drop hx)) (by rw [List.length_drop]; omega) (wds32_len _) (by omega)]
    rfl

/-- How many bits there are, as bytes; what stands behind a text; the whole. -/
def ln32 (n : Nat) : List Nat := [n * 8 / 72057594037927936 % 256, n * 8 / 281474976710656 % 256, n * 8 / 1099511627776 % 256, n * 8 / 4294967296 % 256, n * 8 / 16777216 % 256, n * 8 / 65536 % 256, n * 8 / 256 % 256, n * 8 / 1 % 256]
def msg32 (xs : List Nat) : List Nat := xs ++ (128 :: List.replicate (pad32 xs.length) 0) ++ ln32 xs.length
theorem ln32_len (n : Nat) : (ln32 n).length = 8 := rfl
theorem ln32_lt (n : Nat) : ∀ x ∈ ln32 n, x < 256 := by
  intro x hx
  simp only [ln32, List.mem_cons, List.not_mem_nil, or_false] at hx
  omega
theorem msg32_lt {xs : List Nat} (h : ∀ x ∈ xs, x < 256) : ∀ x ∈ msg32 xs, x < 256 := by
  intro x hx
  rcases List.mem_append.1 hx with hx | hx
  · rcases List.mem_append.1 hx with hx | hx
    · exact h x hx
    · rcases List.mem_cons.1 hx with rfl | hx
      · decide
      · rw [List.eq_of_mem_replicate hx]; decide
  · exact ln32_lt _ x hx
theorem msg32_len (xs : List Nat) : (msg32 xs).length = xs.length + 1 + pad32 xs.length + 8 := by
  unfold msg32
  rw [List.length_append, List.length_append, ln32_len]
  simp
  omega
theorem msg32_mod (xs : List Nat) : (msg32 xs).length % 64 = 0 := by
  rw [msg32_len]
  have := pad32_hit xs.length
  omega
set_option maxHeartbeats 2000000 in
theorem ln32_tell (s : S8x32) (b : List Nat) (N n : Nat) (hb : b.length = 16) (hN : N % 64 = 56) (hn : n < 1152921504606846976) : (fed32 (s, b, N) (ln32 n)).1 = mxs32 s ((b.set 14 (hi32 n)).set 15 (lo32 n)) := by
  have e : ln32 n = ([n * 8 / 72057594037927936 % 256, n * 8 / 281474976710656 % 256, n * 8 / 1099511627776 % 256] ++ [n * 8 / 4294967296 % 256]) ++ ([n * 8 / 16777216 % 256, n * 8 / 65536 % 256, n * 8 / 256 % 256] ++ [n * 8 / 1 % 256]) := rfl
  have hlt := ln32_lt n
  rw [e] at hlt ⊢
  rw [fed32_append, fed32_word s _ b _ N (fun d hd => hlt d (List.mem_append_left _ (List.mem_append_left _ hd))) (hlt _ (by simp)) rfl (by omega) hb, if_neg (by omega)]
  have i1 : N / 4 % 16 = 14 := by omega
  rw [i1, bev32_new _ rfl]
  have hv1 : bev32 0 ([n * 8 / 72057594037927936 % 256, n * 8 / 281474976710656 % 256, n * 8 / 1099511627776 % 256] ++ [n * 8 / 4294967296 % 256]) = hi32 n := by
    unfold hi32
    simp only [List.cons_append, List.nil_append, bev32]
    omega
  rw [hv1, fed32_word s _ _ _ _ (fun d hd => hlt d (List.mem_append_right _ (List.mem_append_left _ hd))) (hlt _ (by simp)) rfl (by omega) (by rw [List.length_set, hb]), if_pos (by omega)]
  have i2 : (N + 4) / 4 % 16 = 15 := by omega
  rw [i2, bev32_new _ rfl]
  have hv2 : bev32 0 ([n * 8 / 16777216 % 256, n * 8 / 65536 % 256, n * 8 / 256 % 256] ++ [n * 8 / 1 % 256]) = lo32 n := by
    unfold lo32
    simp only [List.cons_append, List.nil_append, bev32]
    omega
  rw [hv2]
/-- The stream's sum is the document's. -/
theorem fnl32_doc {xs : List Nat} (h : ∀ x ∈ xs, x < 256) (hn : xs.length < 1152921504606846976) : fnl32 (fed32 beg32 xs) = hf32 ((msg32 xs).length / 64) ini32 (msg32 xs) := by
  have hsz : (fed32 beg32 xs).2.2 = xs.length := by rw [fed32_size]; show 0 + _ = _; omega
  have hgd : Gd32 (fed32 beg32 xs) := beg32_good.fed h
  have hl := lst32_good hgd (pad32 xs.length)
  have hls := lst32_size (fed32 beg32 xs) (pad32 xs.length)
  rw [hsz] at hls
  have hmod : (lst32 (fed32 beg32 xs) (pad32 xs.length)).2.2 % 64 = 56 := by rw [hls]; exact pad32_hit _
  have ht := ln32_tell (lst32 (fed32 beg32 xs) (pad32 xs.length)).1 (lst32 (fed32 beg32 xs) (pad32 xs.length)).2.1 (lst32 (fed32 beg32 xs) (pad32 xs.length)).2.2 xs.length hl.len hmod hn
  have e1 : fnl32 (fed32 beg32 xs) = (fed32 (lst32 (fed32 beg32 xs) (pad32 xs.length)) (ln32 xs.length)).1 := by
    unfold fnl32 fbl32
    rw [hsz]
    exact ht.symm
  have e2 : fed32 (lst32 (fed32 beg32 xs) (pad32 xs.length)) (ln32 xs.length) = fed32 beg32 (msg32 xs) := by
    unfold lst32 msg32
    rw [fed32_append, fed32_append]
  rw [e1, e2]
  have hmm := msg32_mod xs
  exact fed32_blocks _ ini32 (msg32 xs) (List.replicate 16 0) 0 (msg32_lt h) (by omega) (by simp) rfl

end Go.Proofs.YtcdfbcpcgkcojaaDoor
