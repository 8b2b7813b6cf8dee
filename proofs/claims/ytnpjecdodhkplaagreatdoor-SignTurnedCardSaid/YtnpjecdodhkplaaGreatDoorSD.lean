import Derived.Laws.BitsAllLaws
import Derived.Deep.QuietTactic
import Derived.BigQuiet
import Derived.Deep.RegionHeld3
import Derived.Deep.RegionLaw
import Derived.Deep.MidRow
import Derived.Deep.CutRange
import Derived.Deep.CutBlock
import Derived.Test.YtnpjecdodhkplaaGreatDoorRows
import Derived.Test.YtnpjecdodhkplaaGreatDoorSA
namespace Go.Proofs.YtnpjecdodhkplaaGreatDoor
set_option maxRecDepth 100000
open Go.RowKit
open Lib renaming hid → yH
def rot (b x n : Nat) : Nat := x / 2 ^ n ||| x * 2 ^ (b - n) % 2 ^ b
def big3 (b x i j k : Nat) : Nat := rot b x i ^^^ rot b x j ^^^ rot b x k
def sml3 (b x i j k : Nat) : Nat := rot b x i ^^^ rot b x j ^^^ x / 2 ^ k
theorem rot_lt {b x n : Nat} (hx : x < 2 ^ b) : rot b x n < 2 ^ b := Nat.or_lt_two_pow (Nat.lt_of_le_of_lt (Nat.div_le_self _ _) hx) (Nat.mod_lt _ (Nat.two_pow_pos _))
theorem wrap64_nat (x : Nat) : IntKind.u64.wrap (x : Int) = ((x % 18446744073709551616 : Nat) : Int) := by rw [IntKind.wrap_u64]; omega
theorem rot64 (x n : Nat) (hx : x < 18446744073709551616) : bits .or .u64 ((x : Int) / 2 ^ n) (IntKind.u64.wrap ((x : Int) * 2 ^ (64 - n))) = ((rot 64 x n : Nat) : Int) := by
 have h1 : (x : Int) / 2 ^ n = ((x / 2 ^ n : Nat) : Int) := by push_cast; rfl
 have h2 : (x : Int) * 2 ^ (64 - n) = ((x * 2 ^ (64 - n) : Nat) : Int) := by push_cast; rfl
 rw [h1, h2, wrap64_nat, u64_or_nat _ _ (Nat.lt_of_le_of_lt (Nat.div_le_self _ _) hx) (Nat.mod_lt _ (by decide))]
 rfl
set_option maxHeartbeats 400000 in
theorem len64 (w : World) : Calls Tryz.prog 126 #[.int .u64 18446744073709551615] w fun e w' => e = .returned (.int .i64 64) ∧ w' = w := by
 go_enter Tryz.func126, Tryz.ntmps126
 go_wp2_with fail
 go_ret
 exact ⟨by kernel_rfl, rfl⟩
set_option maxHeartbeats 400000 in
theorem width64 (w : World) : Calls Tryz.prog 118 #[] w fun e w' => e = .returned (.int .i64 64) ∧ w' = w := by
 go_enter Tryz.func118, Tryz.ntmps118
 go_wp2_with fail
 rw [show bits BinOp.xor IntKind.u64 IntKind.u64.max 0 = 18446744073709551615 by decide +kernel]
 refine (len64 _).mono ?_
 rintro e w1 ⟨rfl, rfl⟩
 go_wp2_with fail
 go_ret
 exact ⟨rfl, rfl⟩
set_option maxHeartbeats 400000 in
theorem bytes64 (w : World) : Calls Tryz.prog 116 #[] w fun e w' => e = .returned (.int .i64 8) ∧ w' = w := by
 go_enter Tryz.func116, Tryz.ntmps116
 go_wp2_with fail
 refine (width64 _).mono ?_
 rintro e w1 ⟨rfl, rfl⟩
 go_wp2_with fail
 go_ret
 exact ⟨rfl, rfl⟩
set_option maxHeartbeats 400000 in
theorem rounds64 (w : World) : Calls Tryz.prog 128 #[] w fun e w' => e = .returned (.int .i64 80) ∧ w' = w := by
 go_enter Tryz.func128, Tryz.ntmps128
 go_wp2_with fail
 refine (width64 _).mono ?_
 rintro e w1 ⟨rfl, rfl⟩
 go_wp2_with fail
 go_ret
 exact ⟨rfl, rfl⟩
set_option maxHeartbeats 400000 in
theorem turn64 (x n : Nat) (w : World) (hx : x < 18446744073709551616) (hn : n < 64) (h0 : 0 < n) :
  Calls Tryz.prog 136 #[.int .u64 x, .int .i64 n] w fun e w' => e = .returned (.int .u64 (rot 64 x n)) ∧ ∃ q, w' = w.drewN q := by
 have hr := rot64 x n hx
 have HR := yH hr
 have hc := fun W => width64 W
 have s1 : IntKind.i64.wrap ((64 : Int) - n) = (64 : Int) - n := IntWalk.i64_in _ (by omega)
 have s2 : (0 : Int) ≤ (64 : Int) - n := by omega
 have s3 : ((64 : Int) - n).toNat = 64 - n := by omega
 have s4 : (0 : Int) ≤ n := by omega
 have HC := yH hc
 clear hr hc
 go_enter Tryz.func136, Tryz.ntmps136
 go_wp2_with fail
 go_quiet ((go_at_call 118; exact Calls.quiet_of_same (HC.out _)))
 go_wp2_with fail
 go_ret
 exact ⟨by rw [← HR.out]; rfl, _, rfl⟩
theorem bigs64 (x a b c : Nat) (hx : x < 18446744073709551616) : bits .xor .u64 (bits .xor .u64 ((rot 64 x a : Nat) : Int) ((rot 64 x b : Nat) : Int)) ((rot 64 x c : Nat) : Int) = ((big3 64 x a b c : Nat) : Int) := by
 have h : ∀ n, rot 64 x n < 18446744073709551616 := fun n => rot_lt (b := 64) hx
 rw [u64_xor_nat _ _ (h a) (h b), u64_xor_nat _ _ (Nat.xor_lt_two_pow (n := 64) (h a) (h b)) (h c)]
 rfl
theorem smalls64 (x a b c : Nat) (hx : x < 18446744073709551616) : bits .xor .u64 (bits .xor .u64 ((rot 64 x a : Nat) : Int) ((rot 64 x b : Nat) : Int)) ((x : Int) / 2 ^ c) = ((sml3 64 x a b c : Nat) : Int) := by
 have h : ∀ n, rot 64 x n < 18446744073709551616 := fun n => rot_lt (b := 64) hx
 have h1 : (x : Int) / 2 ^ c = ((x / 2 ^ c : Nat) : Int) := by push_cast; rfl
 rw [h1, u64_xor_nat _ _ (h a) (h b), u64_xor_nat _ _ (Nat.xor_lt_two_pow (n := 64) (h a) (h b)) (Nat.lt_of_le_of_lt (Nat.div_le_self _ _) hx)]
 rfl
set_option maxHeartbeats 400000 in
theorem large064 (x : Nat) (w : World) (hx : x < 18446744073709551616) : Calls Tryz.prog 130 #[.int .u64 x] w fun e w' => e = .returned (.int .u64 (big3 64 x 28 34 39 : Nat)) ∧ ∃ q, w' = w.drewN q := by
 have hb := bigs64 x 28 34 39 hx
 have HB := yH hb
 clear hb
 go_enter Tryz.func130, Tryz.ntmps130
 go_wp2_with fail
 refine (width64 _).mono ?_
 rintro e w1 ⟨rfl, rfl⟩
 go_wp2_with fail
 refine (turn64 x 28 _ hx (by omega) (by omega)).mono ?_
 rintro e w2 ⟨rfl, q2, rfl⟩
 go_wp2_with fail
 refine (turn64 x 34 _ hx (by omega) (by omega)).mono ?_
 rintro e w3 ⟨rfl, q3, rfl⟩
 go_wp2_with fail
 refine (turn64 x 39 _ hx (by omega) (by omega)).mono ?_
 rintro e w4 ⟨rfl, q4, rfl⟩
 go_wp2_with fail
 go_ret
 exact ⟨by rw [← HB.out]; rfl, _, rfl⟩
set_option maxHeartbeats 400000 in
theorem large164 (x : Nat) (w : World) (hx : x < 18446744073709551616) : Calls Tryz.prog 129 #[.int .u64 x] w fun e w' => e = .returned (.int .u64 (big3 64 x 14 18 41 : Nat)) ∧ ∃ q, w' = w.drewN q := by
 have hb := bigs64 x 14 18 41 hx
 have HB := yH hb
 clear hb
 go_enter Tryz.func129, Tryz.ntmps129
 go_wp2_with fail
 refine (width64 _).mono ?_
 rintro e w1 ⟨rfl, rfl⟩
 go_wp2_with fail
 refine (turn64 x 14 _ hx (by omega) (by omega)).mono ?_
 rintro e w2 ⟨rfl, q2, rfl⟩
 go_wp2_with fail
 refine (turn64 x 18 _ hx (by omega) (by omega)).mono ?_
 rintro e w3 ⟨rfl, q3, rfl⟩
 go_wp2_with fail
 refine (turn64 x 41 _ hx (by omega) (by omega)).mono ?_
 rintro e w4 ⟨rfl, q4, rfl⟩
 go_wp2_with fail
 go_ret
 exact ⟨by rw [← HB.out]; rfl, _, rfl⟩
set_option maxHeartbeats 400000 in
theorem small064 (x : Nat) (w : World) (hx : x < 18446744073709551616) : Calls Tryz.prog 135 #[.int .u64 x] w fun e w' => e = .returned (.int .u64 (sml3 64 x 1 8 7 : Nat)) ∧ ∃ q, w' = w.drewN q := by
 have hb := smalls64 x 1 8 7 hx
 have hp : (2 : Int) ^ 7 = 128 := by decide
 rw [hp] at hb
 have HB := yH hb
 clear hb hp
 go_enter Tryz.func135, Tryz.ntmps135
 go_wp2_with fail
 refine (width64 _).mono ?_
 rintro e w1 ⟨rfl, rfl⟩
 go_wp2_with fail
 refine (turn64 x 1 _ hx (by omega) (by omega)).mono ?_
 rintro e w2 ⟨rfl, q2, rfl⟩
 go_wp2_with fail
 refine (turn64 x 8 _ hx (by omega) (by omega)).mono ?_
 rintro e w3 ⟨rfl, q3, rfl⟩
 go_wp2_with fail
 go_ret
 exact ⟨by rw [← HB.out]; rfl, _, rfl⟩
set_option maxHeartbeats 400000 in
theorem small164 (x : Nat) (w : World) (hx : x < 18446744073709551616) : Calls Tryz.prog 134 #[.int .u64 x] w fun e w' => e = .returned (.int .u64 (sml3 64 x 19 61 6 : Nat)) ∧ ∃ q, w' = w.drewN q := by
 have hb := smalls64 x 19 61 6 hx
 have hp : (2 : Int) ^ 6 = 64 := by decide
 rw [hp] at hb
 have HB := yH hb
 clear hb hp
 go_enter Tryz.func134, Tryz.ntmps134
 go_wp2_with fail
 refine (width64 _).mono ?_
 rintro e w1 ⟨rfl, rfl⟩
 go_wp2_with fail
 refine (turn64 x 19 _ hx (by omega) (by omega)).mono ?_
 rintro e w2 ⟨rfl, q2, rfl⟩
 go_wp2_with fail
 refine (turn64 x 61 _ hx (by omega) (by omega)).mono ?_
 rintro e w3 ⟨rfl, q3, rfl⟩
 go_wp2_with fail
 go_ret
 exact ⟨by rw [← HB.out]; rfl, _, rfl⟩
def Us64 (l : List Nat) : List Value := l.map fun x => .int .u64 ((x : Nat) : Int)
theorem Us64_length (l : List Nat) : (Us64 l).length = l.length := by simp [Us64]
theorem Us64_append (l m : List Nat) : Us64 (l ++ m) = Us64 l ++ Us64 m := by simp [Us64]
theorem Us64_get (l : List Nat) (k : Nat) : (Us64 l)[k]? = l[k]?.map fun x => .int .u64 ((x : Nat) : Int) := by simp [Us64]
theorem Us64_one (l : List Nat) : ∀ u ∈ Us64 l, u.oneCell' = true := by
 intro u hu
 simp only [Us64, List.mem_map] at hu
 obtain ⟨c, _, rfl⟩ := hu
 rfl
def nxt64 (l : List Nat) : Nat := (sml3 64 (l.getD (l.length - 2) 0) 19 61 6 + l.getD (l.length - 7) 0 + sml3 64 (l.getD (l.length - 15) 0) 1 8 7 + l.getD (l.length - 16) 0) % 18446744073709551616
def exp64 : Nat → List Nat → List Nat
 | 0, l => l
 | n + 1, l => exp64 n l ++ [nxt64 (exp64 n l)]
theorem exp64_length (n : Nat) (l : List Nat) : (exp64 n l).length = l.length + n := by
 induction n with
 | zero => rfl
 | succ n ih => simp [exp64, ih, Nat.add_assoc]
theorem exp64_lt {l : List Nat} (h : ∀ x ∈ l, x < 18446744073709551616) : ∀ n, ∀ x ∈ exp64 n l, x < 18446744073709551616
 | 0 => h
 | n + 1 => by
  intro x hx
  rcases List.mem_append.1 hx with hx | hx
  ·exact exp64_lt h n x hx
  ·rw [List.mem_singleton.1 hx]; exact Nat.mod_lt _ (by decide)
theorem sum64 (a b c d : Nat) : IntKind.u64.wrap (IntKind.u64.wrap (IntKind.u64.wrap ((a : Int) + b) + c) + d) = (((a + b + c + d) % 18446744073709551616 : Nat) : Int) := by
 rw [← Int.natCast_add, wrap64_nat, ← Int.natCast_add, wrap64_nat, ← Int.natCast_add, wrap64_nat]
 congr 1
 omega
theorem summ64 (a b c d : Nat) : ((((a : Int) + b) % 18446744073709551616 + c) % 18446744073709551616 + d) % 18446744073709551616 = (((a + b + c + d) % 18446744073709551616 : Nat) : Int) := by omega
theorem below_dn64 {B : Nat} {a w : World} (h : Below B a w) (n : Nat) : Below B a (w.drewN n) := ⟨h.os, h.tape, h.output, h.size, h.block⟩
def At64 (w : World) (g : Nat) (l : List Nat) : Prop := w.heap[g]? = some (.cells (Us64 (l ++ List.replicate (80 - l.length) 0)).toArray 164 (0, 0))
theorem At64.cell {w : World} {g : Nat} {l : List Nat} (h : At64 w g l) {k : Nat} (hk : k < l.length) : w.cell? ⟨g, k, none⟩ = some (.int .u64 ((l.getD k 0 : Nat) : Int)) := by
 rw [cell_of_row w g k _ _ _ h, List.getElem?_toArray, Us64_get, List.getElem?_append_left hk, List.getD, List.getElem?_eq_getElem hk]
 rfl
theorem At64.free {w : World} {g : Nat} {l : List Nat} (h : At64 w g l) (k : Nat) : w.frozen? ⟨g, k, none⟩ = false := frozen_of_row w g k _ _ h
theorem At64.room {w : World} {g : Nat} {l : List Nat} (h : At64 w g l) (hl : l.length < 80) : w.cell? ⟨g, l.length, none⟩ = some (.int .u64 0) := by
 rw [cell_of_row w g _ _ _ _ h]
 have : 80 - l.length = (79 - l.length) + 1 := by omega
 simp [Us64, this, List.replicate_succ]
theorem At64.more {w : World} {g : Nat} {l : List Nat} (h : At64 w g l) (hl : l.length < 80) (x : Nat) : At64 (w.setCell ⟨g, l.length, none⟩ (.int .u64 ((x : Nat) : Int))) g (l ++ [x]) := by
 unfold At64 at h ⊢
 rw [heap_setCell_same w g _ _ _ _ h]
 have e : 80 - l.length = (80 - (l ++ [x]).length) + 1 := by simp; omega
 rw [e, List.replicate_succ]
 congr 2
 simp [Us64]
theorem At64.below {w w' : World} {g B : Nat} {l : List Nat} (h : At64 w g l) (hb : Below B w w') (hg : g < B) : At64 w' g l := (hb.block g hg).trans h
theorem At64.drewN {w : World} {g : Nat} {l : List Nat} (h : At64 w g l) (n : Nat) : At64 (w.drewN n) g l := h
theorem zeros64 : Tryz.zeroCells164 = (Us64 (List.replicate 80 0)).toArray := by kernel_rfl
theorem u64_size : (Tryz.prog.info? 59).map (·.size) = some 1 := by kernel_rfl
theorem st64w (l : List Nat) (w : World) : (((w.alloc (.cells (Us64 l).toArray 108)).alloc (.cells Tryz.zeroCells164 164)).alloc (.cells Tryz.zeroCells164 164)).drew.heap[w.heap.size + 1 + 1]? = some (.cells (Us64 (List.replicate 80 0)).toArray 164 (0, 0)) := by
 rw [heap_drew, ← zeros64]
 have := heap_alloc_new ((w.alloc (.cells (Us64 l).toArray 108)).alloc (.cells Tryz.zeroCells164 164)) (.cells Tryz.zeroCells164 164)
 simpa using this
theorem st64r (l : List Nat) (w : World) : (((w.alloc (.cells (Us64 l).toArray 108)).alloc (.cells Tryz.zeroCells164 164)).alloc (.cells Tryz.zeroCells164 164)).drew.heap[w.heap.size + 1]? = some (.cells Tryz.zeroCells164 164 (0, 0)) := by
 rw [heap_drew]
 exact (Below.heap_alloc _ _ _ (by simp)).trans (heap_alloc2_new _ _ _)
theorem st64b (l : List Nat) (w : World) : Below w.heap.size w (((w.alloc (.cells (Us64 l).toArray 108)).alloc (.cells Tryz.zeroCells164 164)).alloc (.cells Tryz.zeroCells164 164)).drew := ((((Below.refl _ _).alloc (Nat.le_refl _) _).alloc (by simp) _).alloc (by simp <;> omega) _).drew
theorem st64p (l : List Nat) (w : World) : 0 < (Us64 l).length → some (⟨w.heap.size + 1 + 1, 0, none⟩ : Addr) = some ⟨w.heap.size + 1 + 1, 0, none⟩ ∧ ∃ ad, some (⟨w.heap.size, 0, none⟩ : Addr) = some ad ∧ ∀ (j : Nat) v, (Us64 l)[j]? = some v → (((w.alloc (.cells (Us64 l).toArray 108)).alloc (.cells Tryz.zeroCells164 164)).alloc (.cells Tryz.zeroCells164 164)).drew.cell? (ad.add j) = some v := by
 intro _
 refine ⟨rfl, _, rfl, fun j v hv => ?_⟩
 have e : (⟨w.heap.size, 0, none⟩ : Addr).add j = ⟨w.heap.size, j, none⟩ := by unfold Addr.add; split <;> simp_all
 rw [e, World.cell?_drew, World.cell?_alloc_lt _ _ _ (by simp <;> omega), World.cell?_alloc_lt _ _ _ (by simp), World.cell?_alloc_new]
 simpa using hv
theorem st64n {l : List Nat} (hl : l.length = 16) : (Us64 l).length = Nat.min 16 80 := by rw [Us64_length, hl]; rfl
theorem st64f {l : List Nat} (hl : l.length = 16) : 0 + (Us64 l).length ≤ (Us64 (List.replicate 80 0)).length := by rw [Us64_length, Us64_length, hl]; simp
theorem st64s {l : List Nat} (hl : l.length = 16) : splice (Us64 (List.replicate 80 0)) 0 (Us64 l) = Us64 (l ++ List.replicate (80 - l.length) 0) := by
 unfold splice
 rw [Us64_length, hl, Us64_append]
 simp [Us64]
set_option maxHeartbeats 800000 in
theorem stretch64 (l : List Nat) (hl : l.length = 16) (hm : ∀ x ∈ l, x < 18446744073709551616) (w : World) :
  Calls Tryz.prog 127 #[.agg (Us64 l).toArray] w fun e w' => e = .returned (.agg (Us64 (exp64 64 l ++ List.replicate 0 0)).toArray) ∧ Below w.heap.size w w' := by
 have HN := yH (st64n hl)
 have HF := yH (st64f hl)
 have HL := yH hl
 have HM := yH hm
 clear hl hm
 go_enter Tryz.func127, Tryz.ntmps127
 go_wp2_with fail
 go_region_law ((refine step_copy_splice (by rfl) (.tmp 5) (.tmp 6) 127 127 (by rfl) 59 Tryz.underlying127 u64_size (some ⟨w.heap.size + 1 + 1, 0, none⟩) (some ⟨w.heap.size, 0, none⟩) 80 80 16 16 (by rfl) (by rfl) (w.heap.size + 1 + 1) 0 (Us64 (List.replicate 80 0)) 164 (st64w l w) (Us64 l) HN.out (st64p l w) HF.out (Us64_one l) (w.heap.size + 1 + 1) (((w.alloc (.cells (Us64 l).toArray 108)).alloc (.cells Tryz.zeroCells164 164)).alloc (.cells Tryz.zeroCells164 164)).drew (Below.refl _ _) (Nat.le_refl _) ?_; intro w2 HC HB2))
 have hat : At64 w2 (w.heap.size + 1 + 1) l := by
  have := HC.out
  rw [st64s HL.out] at this
  exact this
 have HAT := yH hat
 have HBB := yH HB2
 clear hat HC HB2
 go_wp2_with fail
 go_loopw [4] (fun s wr => ∃ i : Nat, 16 ≤ i ∧ i ≤ 80 ∧ s = .int .i64 i ∧ At64 wr (w.heap.size + 1 + 1) (exp64 (i - 16) l) ∧ Below (w.heap.size + 1 + 1) (((w.alloc (.cells (Us64 l).toArray 108)).alloc (.cells Tryz.zeroCells164 164)).alloc (.cells Tryz.zeroCells164 164)).drew wr) (fun s _ => 80 - (intOf s).toNat)
 case atStart => exact ⟨16, Nat.le_refl _, by decide, rfl, HAT.out, HBB.out⟩
 case round =>
  obtain ⟨i, h16, hi, rfl, hat, hbl⟩ := hrel
  have HA := yH hat
  have HB := yH hbl
  clear hat hbl
  have hlen : (exp64 (i - 16) l).length = i := by rw [exp64_length, HL.out]; omega
  by_cases hlt : i < 80
  ·have HLT := yH (exp64_lt HM.out (i - 16))
   have hget : ∀ k, k < i → (exp64 (i - 16) l).getD k 0 < 18446744073709551616 := by
    intro k hk
    rw [List.getD, List.getElem?_eq_getElem (by omega)]
    exact HLT.out _ (List.getElem_mem _)
   have hnx : nxt64 (exp64 (i - 16) l) = (sml3 64 ((exp64 (i - 16) l).getD (i - 2) 0) 19 61 6 + (exp64 (i - 16) l).getD (i - 7) 0 + sml3 64 ((exp64 (i - 16) l).getD (i - 15) 0) 1 8 7 + (exp64 (i - 16) l).getD (i - 16) 0) % 18446744073709551616 := by unfold nxt64; rw [hlen]
   have hup : exp64 (i + 1 - 16) l = exp64 (i - 16) l ++ [nxt64 (exp64 (i - 16) l)] := by rw [show i + 1 - 16 = (i - 16) + 1 by omega]; rfl
   have g2 := hget (i - 2) (by omega)
   have g15 := hget (i - 15) (by omega)
   have k2 := HA.out.cell (k := i - 2) (by omega)
   have k7 := HA.out.cell (k := i - 7) (by omega)
   have k15 := HA.out.cell (k := i - 15) (by omega)
   have k16 := HA.out.cell (k := i - 16) (by omega)
   have kr := HA.out.room (by omega)
   have kf := HA.out.free i
   rw [hlen] at kr
   generalize (exp64 (i - 16) l).getD (i - 2) 0 = x2 at *
   generalize (exp64 (i - 16) l).getD (i - 7) 0 = x7 at *
   generalize (exp64 (i - 16) l).getD (i - 15) 0 = x15 at *
   generalize (exp64 (i - 16) l).getD (i - 16) 0 = x16 at *
   have HNX := yH hnx
   have HLEN := yH hlen
   have HUP := yH hup
   clear hnx hget hlen hup
   have a2 : (0 : Int) ≤ (i : Int) - 2 := by omega
   have b2 : (i : Int) - 2 < 80 := by omega
   have c2 : (2 : Int) ≤ (i : Int) := by omega
   have t2 : ((i : Int) - 2).toNat = i - 2 := by omega
   have a7 : (0 : Int) ≤ (i : Int) - 7 := by omega
   have b7 : (i : Int) - 7 < 80 := by omega
   have c7 : (7 : Int) ≤ (i : Int) := by omega
   have t7 : ((i : Int) - 7).toNat = i - 7 := by omega
   have a15 : (0 : Int) ≤ (i : Int) - 15 := by omega
   have b15 : (i : Int) - 15 < 80 := by omega
   have c15 : (15 : Int) ≤ (i : Int) := by omega
   have t15 : ((i : Int) - 15).toNat = i - 15 := by omega
   have a16 : (0 : Int) ≤ (i : Int) - 16 := by omega
   have b16 : (i : Int) - 16 < 80 := by omega
   have c16 : (16 : Int) ≤ (i : Int) := by omega
   have t16 : ((i : Int) - 16).toNat = i - 16 := by omega
   have bi : (i : Int) < 80 := by omega
   have s2 : IntKind.i64.wrap ((i : Int) - 2) = (i : Int) - 2 := IntWalk.i64_in _ (by omega)
   have s7 : IntKind.i64.wrap ((i : Int) - 7) = (i : Int) - 7 := IntWalk.i64_in _ (by omega)
   have s15 : IntKind.i64.wrap ((i : Int) - 15) = (i : Int) - 15 := IntWalk.i64_in _ (by omega)
   have s16 : IntKind.i64.wrap ((i : Int) - 16) = (i : Int) - 16 := IntWalk.i64_in _ (by omega)
   go_wp2_with fail
   refine (rounds64 _).mono ?_
   rintro e w3 ⟨rfl, rfl⟩
   go_wp2_with fail
   go_region_held3 (fun w' => w'.cell? ⟨w.heap.size + 1 + 1, i - 2, none⟩ = some (.int .u64 (x2 : Int)) ∧ w'.cell? ⟨w.heap.size + 1 + 1, i - 7, none⟩ = some (.int .u64 (x7 : Int)) ∧ w'.cell? ⟨w.heap.size + 1 + 1, i - 15, none⟩ = some (.int .u64 (x15 : Int)) ∧ w'.cell? ⟨w.heap.size + 1 + 1, i - 16, none⟩ = some (.int .u64 (x16 : Int)))
    (first | go_keep | (go_split_ands; refine ⟨?_, ?_, ?_, ?_⟩ <;> (rw [World.cell?_setCell_other _ _ _ _ (by intro e; injection e with _ e; omega)]; assumption)))
    (first
     | (go_at_call 134; refine (small164 x2 _ g2).mono ?_; rintro e w4 ⟨rfl, q1, rfl⟩)
     | (go_at_call 135; refine (small064 x15 _ g15).mono ?_; rintro e w5 ⟨rfl, q2, rfl⟩))
   go_wp2_with fail
   go_roundw
   case rel =>
    refine ⟨i + 1, by omega, by omega, by go_num, ?_, (below_dn64 HB.out _).setCell (Nat.le_refl _) _⟩
    have h := (HA.out.drewN (1 + q1 + q2)).more (by rw [HLEN.out]; omega) (nxt64 (exp64 (i - 16) l))
    rw [HLEN.out] at h
    rw [HUP.out]
    first
     | rw [summ64, ← HNX.out]
     | rw [sum64, ← HNX.out]
    exact h
   case measure => simp [intOf]; omega
  ·have hie : i = 80 := by omega
   subst hie
   go_wp2_with fail
   refine (rounds64 _).mono ?_
   rintro e w3 ⟨rfl, rfl⟩
   have hfin : exp64 (80 - 16) l ++ List.replicate (80 - (exp64 (80 - 16) l).length) 0 = exp64 64 l ++ List.replicate 0 0 := by rw [hlen]
   have hcell := HA.out
   unfold At64 at hcell
   rw [hfin] at hcell
   have hlen80 : (Us64 (exp64 64 l ++ List.replicate 0 0)).toArray.size = 80 := by simp [Us64, exp64_length, HL.out]
   have hsz : (Tryz.prog.info? 164).map (·.size) = some (Us64 (exp64 64 l ++ List.replicate 0 0)).toArray.size := by rw [hlen80]; kernel_rfl
   have hres := (HB.out.block (w.heap.size + 1) (by omega)).trans (st64r l w)
   have hold : (Tryz.zeroCells164).size = (Us64 (exp64 64 l ++ List.replicate 0 0)).toArray.size := by rw [hlen80]; kernel_rfl
   have hone := all_oneCell_toArray (Us64_one (exp64 64 l ++ List.replicate 0 0))
   have HCELL := yH hcell
   have HSZ := yH hsz
   have HRES := yH hres
   have HOLD := yH hold
   have HONE := yH hone
   have HST := yH (st64b l w)
   clear hfin hcell hlen80 hsz hres hold hone hlen
   go_wp2_with (first
    | (refine wpList_load_row rfl 164 (.tmp 3) rfl (w.heap.size + 1 + 1) rfl 164 _ (0, 0) _ HCELL.out Tryz.underlying164 rfl HSZ.out ?_)
    | (refine wpList_store_row rfl 164 (.tmp 2) (.tmp 36) rfl (w.heap.size + 1) _ rfl rfl 164 _ HRES.out HSZ.out HOLD.out HONE.out ?_))
   have hgot := setRow_heap w3 (w.heap.size + 1) _ (Us64 (exp64 64 l ++ List.replicate 0 0)).toArray _ _ HRES.out
   refine bodyPost_ret (results_cell_row (by rfl) _ _ (w.heap.size + 1) _ _ _ _ (by rfl) hgot Tryz.underlying164 rfl HSZ.out) rfl ?_
   exact ⟨rfl, below_setRow (HST.out.trans (HB.out.mono (by omega))) (by omega) _⟩
structure S8x64 where
 a : Nat
 b : Nat
 c : Nat
 d : Nat
 e : Nat
 f : Nat
 g : Nat
 h : Nat
def S8x64.ok (s : S8x64) : Prop := s.a < 18446744073709551616 ∧ s.b < 18446744073709551616 ∧ s.c < 18446744073709551616 ∧ s.d < 18446744073709551616 ∧ s.e < 18446744073709551616 ∧ s.f < 18446744073709551616 ∧ s.g < 18446744073709551616 ∧ s.h < 18446744073709551616
def S8x64.list (s : S8x64) : List Nat := [s.a, s.b, s.c, s.d, s.e, s.f, s.g, s.h]
def ch64 (e f g : Nat) : Nat := (e &&& f) ^^^ ((18446744073709551616 - (e + 1)) &&& g)
def maj64 (a b c : Nat) : Nat := (a &&& b) ^^^ (a &&& c) ^^^ (b &&& c)
def t64 (e f g h k x : Nat) : Nat := (h + big3 64 e 14 18 41 + ch64 e f g + k + x) % 18446744073709551616
def ma64 (a b c : Nat) : Nat := (big3 64 a 28 34 39 + maj64 a b c) % 18446744073709551616
def rnd64 (s : S8x64) (k x : Nat) : S8x64 :=
 ⟨(t64 s.e s.f s.g s.h k x + ma64 s.a s.b s.c) % 18446744073709551616, s.a, s.b, s.c, (s.d + t64 s.e s.f s.g s.h k x) % 18446744073709551616, s.e, s.f, s.g⟩
def rns64 (K W : Nat → Nat) : Nat → S8x64 → S8x64
 | 0, s => s
 | n + 1, s => rnd64 (rns64 K W n s) (K n) (W n)
theorem rnd64_ok {s : S8x64} (h : s.ok) (k x : Nat) : (rnd64 s k x).ok := by
 obtain ⟨h1, h2, h3, h4, h5, h6, h7, h8⟩ := h
 exact ⟨Nat.mod_lt _ (by decide), h1, h2, h3, Nat.mod_lt _ (by decide), h5, h6, h7⟩
theorem rns64_ok {s : S8x64} (h : s.ok) (K W : Nat → Nat) : ∀ n, (rns64 K W n s).ok
 | 0 => h
 | n + 1 => rnd64_ok (rns64_ok h K W n) _ _
theorem xor_ones64 {x : Nat} (h : x < 2 ^ 64) : (2 ^ 64 - 1) ^^^ x = 2 ^ 64 - (x + 1) := by
 apply Nat.eq_of_testBit_eq
 intro i
 rw [Nat.testBit_xor, Nat.testBit_two_pow_sub_one, Nat.testBit_two_pow_sub_succ h]
 by_cases hi : i < 64
 ·simp [hi]
 ·have hx : x.testBit i = false := Nat.testBit_lt_two_pow (Nat.lt_of_lt_of_le h (Nat.pow_le_pow_right (by decide) (Nat.le_of_not_lt hi)))
  simp [hi, hx]
theorem not64 {x : Nat} (h : x < 18446744073709551616) : bits .xor .u64 IntKind.u64.max (x : Int) = ((18446744073709551616 - (x + 1) : Nat) : Int) := by
 have h1 : IntKind.u64.max = ((18446744073709551616 - 1 : Nat) : Int) := by decide +kernel
 rw [h1, u64_xor_nat _ _ (by omega) h]
 congr 1
 exact xor_ones64 h
theorem and64_lt {a b : Nat} (h : a < 18446744073709551616) : a &&& b < 18446744073709551616 := Nat.lt_of_le_of_lt Nat.and_le_left h
theorem xor64_lt {a b : Nat} (h : a < 18446744073709551616) (h' : b < 18446744073709551616) : a ^^^ b < 18446744073709551616 := Nat.xor_lt_two_pow (n := 64) h h'
theorem chs64 {e f g : Nat} (he : e < 18446744073709551616) (hf : f < 18446744073709551616) (hg : g < 18446744073709551616) : bits .xor .u64 (bits .and .u64 (e : Int) (f : Int)) (bits .and .u64 (bits .xor .u64 IntKind.u64.max (e : Int)) (g : Int)) = ((ch64 e f g : Nat) : Int) := by
 rw [not64 he, u64_and_nat _ _ he hf, u64_and_nat _ _ (by omega) hg, u64_xor_nat _ _ (and64_lt he) (and64_lt (by omega))]
 rfl
theorem majs64 {a b c : Nat} (ha : a < 18446744073709551616) (hb : b < 18446744073709551616) (hc : c < 18446744073709551616) : bits .xor .u64 (bits .xor .u64 (bits .and .u64 (a : Int) (b : Int)) (bits .and .u64 (a : Int) (c : Int))) (bits .and .u64 (b : Int) (c : Int)) = ((maj64 a b c : Nat) : Int) := by
 rw [u64_and_nat _ _ ha hb, u64_and_nat _ _ ha hc, u64_and_nat _ _ hb hc, u64_xor_nat _ _ (and64_lt ha) (and64_lt ha), u64_xor_nat _ _ (xor64_lt (and64_lt ha) (and64_lt ha)) (and64_lt hb)]
 rfl
theorem ts64 (h s c k x : Nat) : IntKind.u64.wrap (IntKind.u64.wrap (IntKind.u64.wrap (IntKind.u64.wrap ((h : Int) + s) + c) + k) + x) = (((h + s + c + k + x) % 18446744073709551616 : Nat) : Int) := by
 rw [← Int.natCast_add, wrap64_nat, ← Int.natCast_add, wrap64_nat, ← Int.natCast_add, wrap64_nat, ← Int.natCast_add, wrap64_nat]
 congr 1
 omega
theorem add64 (a b : Nat) : IntKind.u64.wrap ((a : Int) + b) = (((a + b) % 18446744073709551616 : Nat) : Int) := by rw [← Int.natCast_add, wrap64_nat]
set_option maxHeartbeats 400000 in
theorem top64 (c : Nat) (w : World) (_hc : c < 18446744073709551616) : Calls Tryz.prog 114 #[.int .u64 c] w fun e w' => e = .returned (.int .u64 ((c / 2 ^ (64 - 64) : Nat) : Int)) ∧ w' = w := by
 go_enter Tryz.func114, Tryz.ntmps114
 go_wp2_with fail
 refine (width64 _).mono ?_
 rintro e w1 ⟨rfl, rfl⟩
 go_wp2_with fail
 go_ret
 exact ⟨by first | rfl | simp, rfl⟩
def k64 : List Nat := [4794697086780616226, 8158064640168781261, 13096744586834688815, 16840607885511220156, 4131703408338449720, 6480981068601479193, 10538285296894168987, 12329834152419229976, 15566598209576043074, 1334009975649890238, 2608012711638119052, 6128411473006802146, 8268148722764581231, 9286055187155687089, 11230858885718282805, 13951009754708518548, 16472876342353939154, 17275323862435702243, 1135362057144423861, 2597628984639134821, 3308224258029322869, 5365058923640841347, 6679025012923562964, 8573033837759648693, 10970295158949994411, 12119686244451234320, 12683024718118986047, 13788192230050041572, 14330467153632333762, 15395433587784984357, 489312712824947311, 1452737877330783856, 2861767655752347644, 3322285676063803686, 5560940570517711597, 5996557281743188959, 7280758554555802590, 8532644243296465576, 9350256976987008742, 10552545826968843579, 11727347734174303076, 12113106623233404929, 14000437183269869457, 14369950271660146224, 15101387698204529176, 15463397548674623760, 17586052441742319658, 1182934255886127544, 1847814050463011016, 2177327727835720531, 2830643537854262169, 3796741975233480872, 4115178125766777443, 5681478168544905931, 6601373596472566643, 7507060721942968483, 8399075790359081724, 8693463985226723168, 9568029438360202098, 10144078919501101548, 10430055236837252648, 11840083180663258601, 13761210420658862357, 14299343276471374635, 14566680578165727644, 15097957966210449927, 16922976911328602910, 17689382322260857208, 500013540394364858, 748580250866718886, 1242879168328830382, 1977374033974150939, 2944078676154940804, 3659926193048069267, 4368137639120453308, 4836135668995329356, 5532061633213252278, 6448918945643986474, 6902733635092675308, 7801388544844847127]
theorem k64_len : k64.length = 80 := by decide +kernel
def Ks64 (w : World) : Prop := ∃ c t, w.heap[7]? = some (.cells c t (0, 0)) ∧ ∀ k, k < 80 → c[k]? = some (Value.int .u64 ((k64.getD k 0 : Nat) : Int))
theorem Ks64.cell {w : World} (h : Ks64 w) {k : Nat} (hk : k < 80) : w.cell? ⟨7, k, none⟩ = some (.int .u64 ((k64.getD k 0 : Nat) : Int)) := by
 obtain ⟨c, t, h1, h2⟩ := h
 rw [cell_of_row w 7 k _ _ _ h1]
 exact h2 k hk
theorem k64_lt : ∀ x ∈ k64, x < 18446744073709551616 := by decide +kernel
theorem k64_get (k : Nat) : k64.getD k 0 < 18446744073709551616 := by
 rw [List.getD]
 cases h : k64[k]? with
 | none => decide
 | some v => exact k64_lt v (List.mem_of_getElem? h)
def Tb64 (w : World) (g : Nat) (T : TypeId) (l b : List Nat) (n : Int) : Prop := w.heap[g]? = some (.cells (Us64 (l ++ b) ++ [Value.int .i64 n]).toArray T (0, 0))
theorem Tb64.cell {w : World} {g : Nat} {T : TypeId} {l b : List Nat} {n : Int} (h : Tb64 w g T l b n) {k : Nat} (hk : k < l.length) : w.cell? ⟨g, k, none⟩ = some (.int .u64 ((l.getD k 0 : Nat) : Int)) := by
 have h1 : k < (Us64 (l ++ b)).length := by rw [Us64_length]; simp; omega
 rw [cell_of_row w g k _ _ _ h, List.getElem?_toArray, List.getElem?_append_left h1, Us64_get, List.getElem?_append_left hk, List.getD, List.getElem?_eq_getElem hk]
 rfl
theorem Tb64.block {w : World} {g : Nat} {T : TypeId} {l b : List Nat} {n : Int} (h : Tb64 w g T l b n) : w.rangeAt g l.length (Us64 b) := by
 intro j v hv
 have hj : j < (Us64 b).length := (List.getElem?_eq_some_iff.1 hv).1
 rw [cell_of_row w g _ _ _ _ h, List.getElem?_toArray, Us64_append, List.append_assoc, List.getElem?_append_right (by rw [Us64_length]; omega), Us64_length, Nat.add_sub_cancel_left, List.getElem?_append_left hj]
 exact hv
theorem Tb64.below {w w' : World} {g B : Nat} {T : TypeId} {l b : List Nat} {n : Int} (h : Tb64 w g T l b n) (hb : Below B w w') (hg : g < B) : Tb64 w' g T l b n := (hb.block g hg).trans h
theorem Ks64.below {w w' : World} {B : Nat} (h : Ks64 w) (hb : Below B w w') (hg : 7 < B) : Ks64 w' := by
 obtain ⟨c, t, h1, h2⟩ := h
 exact ⟨c, t, (hb.block 7 hg).trans h1, h2⟩
theorem Ks64.lt {w : World} (h : Ks64 w) : 7 < w.heap.size := by
 obtain ⟨c, t, h1, _⟩ := h
 exact (Array.getElem?_eq_some_iff.1 h1).1
theorem Ks64.keep {w w' : World} (h : Ks64 w) (e : w'.heap[7]? = w.heap[7]?) : Ks64 w' := by
 obtain ⟨c, t, h1, h2⟩ := h
 exact ⟨c, t, e.trans h1, h2⟩
theorem Tb64.lt {w : World} {g : Nat} {T : TypeId} {l b : List Nat} {n : Int} (h : Tb64 w g T l b n) : g < w.heap.size := (Array.getElem?_eq_some_iff.1 h).1
def ws64 (b : List Nat) : List Nat := exp64 64 b ++ List.replicate 0 0
theorem ws64_length {b : List Nat} (hb : b.length = 16) : (ws64 b).length = 80 := by simp [ws64, exp64_length, hb]
def gone64 (s : S8x64) (b : List Nat) (k : Nat) : S8x64 := rns64 (fun i => k64.getD i 0 / 2 ^ (64 - 64)) (fun i => (ws64 b).getD i 0) k s
theorem gone64_succ (s : S8x64) (b : List Nat) (k : Nat) : gone64 s b (k + 1) = rnd64 (gone64 s b k) (k64.getD k 0 / 2 ^ (64 - 64)) ((ws64 b).getD k 0) := rfl
theorem strw64 (b : List Nat) (hb : b.length = 16) (hm : ∀ x ∈ b, x < 18446744073709551616) (w : World) : Calls Tryz.prog 127 #[.agg (Us64 b).toArray] w fun e w' => e = .returned (.agg (Us64 (ws64 b)).toArray) ∧ Below w.heap.size w w' := stretch64 b hb hm w
def par64 (l m : List Nat) (k : Nat) : List Nat := (l.zipWith (fun x y => (x + y) % 18446744073709551616) m).take k ++ l.drop k
theorem par64_len (x1 x2 x3 x4 x5 x6 x7 x8 y1 y2 y3 y4 y5 y6 y7 y8 k : Nat) (h : k ≤ 8) : (par64 [x1, x2, x3, x4, x5, x6, x7, x8] [y1, y2, y3, y4, y5, y6, y7, y8] k).length = 8 := by simp [par64]; omega
theorem par64_at (x1 x2 x3 x4 x5 x6 x7 x8 y1 y2 y3 y4 y5 y6 y7 y8 k : Nat) (h : k < 8) : (par64 [x1, x2, x3, x4, x5, x6, x7, x8] [y1, y2, y3, y4, y5, y6, y7, y8] k).getD k 0 = [x1, x2, x3, x4, x5, x6, x7, x8].getD k 0 :=
 match k, h with
 | 0, _ => rfl
 | 1, _ => rfl
 | 2, _ => rfl
 | 3, _ => rfl
 | 4, _ => rfl
 | 5, _ => rfl
 | 6, _ => rfl
 | 7, _ => rfl
 | _ + 8, h => by omega
theorem par64_set (x1 x2 x3 x4 x5 x6 x7 x8 y1 y2 y3 y4 y5 y6 y7 y8 k : Nat) (h : k < 8) : (par64 [x1, x2, x3, x4, x5, x6, x7, x8] [y1, y2, y3, y4, y5, y6, y7, y8] k).set k (([x1, x2, x3, x4, x5, x6, x7, x8].getD k 0 + [y1, y2, y3, y4, y5, y6, y7, y8].getD k 0) % 18446744073709551616) = par64 [x1, x2, x3, x4, x5, x6, x7, x8] [y1, y2, y3, y4, y5, y6, y7, y8] (k + 1) :=
 match k, h with
 | 0, _ => rfl
 | 1, _ => rfl
 | 2, _ => rfl
 | 3, _ => rfl
 | 4, _ => rfl
 | 5, _ => rfl
 | 6, _ => rfl
 | 7, _ => rfl
 | _ + 8, h => by omega
theorem Tb64.free {w : World} {g : Nat} {T : TypeId} {l b : List Nat} {n : Int} (h : Tb64 w g T l b n) (k : Nat) : w.frozen? ⟨g, k, none⟩ = false := frozen_of_row w g k _ _ h
theorem Tb64.set {w : World} {g : Nat} {T : TypeId} {l b : List Nat} {n : Int} (h : Tb64 w g T l b n) {k : Nat} (hk : k < l.length) (x : Nat) : Tb64 (w.setCell ⟨g, k, none⟩ (.int .u64 ((x : Nat) : Int))) g T (l.set k x) b n := by
 unfold Tb64 at h ⊢
 rw [heap_setCell_same w g _ _ _ _ h]
 congr 2
 have h1 : k < (Us64 l).length := by rw [Us64_length]; exact hk
 rw [List.setIfInBounds_toArray, Us64_append, Us64_append, List.append_assoc, List.set_append_left _ _ h1, List.append_assoc]
 simp [Us64, List.map_set]
theorem idx64 (x1 x2 x3 x4 x5 x6 x7 x8 k : Nat) (h : k < 8) (w : World) : (Instr.index 102 (.agg #[.int .u64 ((x1 : Nat) : Int), .int .u64 ((x2 : Nat) : Int), .int .u64 ((x3 : Nat) : Int), .int .u64 ((x4 : Nat) : Int), .int .u64 ((x5 : Nat) : Int), .int .u64 ((x6 : Nat) : Int), .int .u64 ((x7 : Nat) : Int), .int .u64 ((x8 : Nat) : Int)]) (.int .i64 ((k : Nat) : Int))).run Tryz.prog w = .ok (.int .u64 (([x1, x2, x3, x4, x5, x6, x7, x8].getD k 0 : Nat) : Int)) w :=
 match k, h with
 | 0, _ => by kernel_rfl
 | 1, _ => by kernel_rfl
 | 2, _ => by kernel_rfl
 | 3, _ => by kernel_rfl
 | 4, _ => by kernel_rfl
 | 5, _ => by kernel_rfl
 | 6, _ => by kernel_rfl
 | 7, _ => by kernel_rfl
 | _ + 8, h => by omega
def mxd64 (s : S8x64) (b : List Nat) : List Nat := par64 s.list (gone64 s b 80).list 8
set_option maxHeartbeats 1600000 in
theorem mix64 (s : S8x64) (b : List Nat) (n : Int) (T : TypeId) (g : Nat) (w : World) (ho : s.ok) (hb : b.length = 16) (hm : ∀ x ∈ b, x < 18446744073709551616) (hk : Ks64 w) (ht : Tb64 w g T s.list b n) :
  Calls Tryz.prog 119 #[.pointer (some ⟨g, 0, none⟩)] w fun e w' => e = .returned (.tuple #[]) ∧ Tb64 w' g T (mxd64 s b) b n ∧ Only (· = g) w w' := by
 have HO := yH ho
 have HB := yH hb
 have HM := yH hm
 have HK := yH hk
 have HT := yH ht
 have hbl : w.rangeAt g 8 (Us64 b) := ht.block
 have HBL := yH hbl
 have hi : (Tryz.prog.info? 108).map (·.size) = some (Us64 b).length := by rw [Us64_length, hb]; kernel_rfl
 have HI := yH hi
 clear ho hb hm hk ht hbl hi
 go_enter Tryz.func119, Tryz.ntmps119
 go_upto_region 0 with fail
 go_cut [2] from 16 to 20 (fun v wx => ∃ p, v = .pointer (some ⟨p, 0, none⟩) ∧ w.heap.size ≤ p ∧ wx.heap[p]? = some (.cells (Us64 (ws64 b)).toArray 164 (0, 0)) ∧ Below w.heap.size w wx)
 case first =>
  go_wp2_with (refine wpList_load_mid rfl 108 (.tmp 18) rfl g 8 rfl (Us64 b) _ HBL.out rfl rfl HI.out ?_)
  refine (strw64 b HB.out HM.out _).mono ?_
  rintro e w1 ⟨rfl, hb1⟩
  have HB1 := yH hb1
  clear hb1
  have hlen80 : (Us64 (ws64 b)).toArray.size = 80 := by rw [List.size_toArray, Us64_length, ws64_length HB.out]
  have hsz : (Tryz.prog.info? 164).map (·.size) = some (Us64 (ws64 b)).toArray.size := by rw [hlen80]; kernel_rfl
  have hres : (w1.alloc (.cells Tryz.zeroCells164 164)).heap[w1.heap.size]? = some (.cells Tryz.zeroCells164 164 (0, 0)) := heap_alloc_new _ _
  have hold : (Tryz.zeroCells164).size = (Us64 (ws64 b)).toArray.size := by rw [hlen80]; kernel_rfl
  have hone := all_oneCell_toArray (Us64_one (ws64 b))
  have HSZ := yH hsz
  have HRES := yH hres
  have HOLD := yH hold
  have HONE := yH hone
  clear hlen80 hsz hres hold hone
  go_wp2_with (refine wpList_store_row rfl 164 (.tmp 2) (.tmp 20) rfl w1.heap.size _ rfl rfl 164 _ HRES.out HSZ.out HOLD.out HONE.out ?_)
  go_meet
  exact ⟨w1.heap.size, rfl, HB1.out.size, setRow_heap _ _ _ _ _ _ HRES.out, below_setRow (HB1.out.alloc HB1.out.size _) HB1.out.size _⟩
 case rest =>
  obtain ⟨p, rfl, hp, hrow, hbe⟩ := hcut
  have ht : Tb64 wc g T s.list b n := HT.out.below hbe HT.out.lt
  have hk : Ks64 wc := HK.out.below hbe HK.out.lt
  have c0 := ht.cell (k := 0) (by show 0 < 8; decide)
  have c1 := ht.cell (k := 1) (by show 1 < 8; decide)
  have c2 := ht.cell (k := 2) (by show 2 < 8; decide)
  have c3 := ht.cell (k := 3) (by show 3 < 8; decide)
  have c4 := ht.cell (k := 4) (by show 4 < 8; decide)
  have c5 := ht.cell (k := 5) (by show 5 < 8; decide)
  have c6 := ht.cell (k := 6) (by show 6 < 8; decide)
  have c7 := ht.cell (k := 7) (by show 7 < 8; decide)
  have e0 : s.list.getD 0 0 = s.a := rfl
  have e1 : s.list.getD 1 0 = s.b := rfl
  have e2 : s.list.getD 2 0 = s.c := rfl
  have e3 : s.list.getD 3 0 = s.d := rfl
  have e4 : s.list.getD 4 0 = s.e := rfl
  have e5 : s.list.getD 5 0 = s.f := rfl
  have e6 : s.list.getD 6 0 = s.g := rfl
  have e7 : s.list.getD 7 0 = s.h := rfl
  rw [e0] at c0
  rw [e1] at c1
  rw [e2] at c2
  rw [e3] at c3
  rw [e4] at c4
  rw [e5] at c5
  rw [e6] at c6
  rw [e7] at c7
  have HT1 := yH ht
  have HK1 := yH hk
  have HP := yH hp
  have HROW := yH hrow
  have HBE := yH hbe
  clear ht hk hp hrow hbe e0 e1 e2 e3 e4 e5 e6 e7
  go_upto_region 1 with fail
  go_quiet (fail)
  have C0 := yH c0
  clear c0 c1 c2 c3 c4 c5 c6 c7
  go_wp2_with fail
  refine (rounds64 _).mono ?_
  rintro e w3 ⟨rfl, rfl⟩
  go_wp2_with fail
  go_loopw [3, 4, 5, 6, 7, 8, 9, 10, 62] (fun a1 a2 a3 a4 a5 a6 a7 a8 i wr => ∃ k : Nat, k ≤ 80 ∧ i = .int .i64 k ∧ a1 = .int .u64 ((gone64 s b k).a : Nat) ∧ a2 = .int .u64 ((gone64 s b k).b : Nat) ∧ a3 = .int .u64 ((gone64 s b k).c : Nat) ∧ a4 = .int .u64 ((gone64 s b k).d : Nat) ∧ a5 = .int .u64 ((gone64 s b k).e : Nat) ∧ a6 = .int .u64 ((gone64 s b k).f : Nat) ∧ a7 = .int .u64 ((gone64 s b k).g : Nat) ∧ a8 = .int .u64 ((gone64 s b k).h : Nat) ∧ ∃ q, wr = wc.drewN q) (fun _ _ _ _ _ _ _ _ i _ => 80 - (intOf i).toNat)
  case atStart => exact ⟨0, by decide, rfl, rfl, rfl, rfl, rfl, rfl, rfl, rfl, rfl, _, rfl⟩
  case round =>
   obtain ⟨k, hk, rfl, rfl, rfl, rfl, rfl, rfl, rfl, rfl, rfl, q, rfl⟩ := hrel
   by_cases hlt : k < 80
   ·have hS1 := gone64_succ s b k
    have hok : (gone64 s b k).ok := rns64_ok HO.out _ _ k
    have ck : (wc.drewN q).cell? ⟨7, k, none⟩ = some (.int .u64 ((k64.getD k 0 : Nat) : Int)) := HK1.out.cell (by omega)
    have cw : (wc.drewN q).cell? ⟨p, k, none⟩ = some (.int .u64 (((ws64 b).getD k 0 : Nat) : Int)) := by
     have h1 : k < (ws64 b).length := by rw [ws64_length HB.out]; omega
     rw [cell_of_row (wc.drewN q) p k _ _ _ HROW.out, List.getElem?_toArray, Us64_get, List.getD, List.getElem?_eq_getElem h1]
     rfl
    have hy := k64_get k
    generalize hW : wc.drewN q = W at *
    generalize gone64 s b k = S at *
    generalize (ws64 b).getD k 0 = X at *
    generalize k64.getD k 0 = Y at *
    have htop : ∀ w', Calls Tryz.prog 114 #[.int .u64 (Y : Int)] w' fun e w'' => e = .returned (.int .u64 ((Y / 2 ^ (64 - 64) : Nat) : Int)) ∧ w'' = w' := fun w' => top64 Y w' hy
    generalize Y / 2 ^ (64 - 64) = Z at *
    obtain ⟨S1, S2, S3, S4, S5, S6, S7, S8⟩ := S
    obtain ⟨h1, h2, h3, h4, h5, h6, h7, h8⟩ := hok
    dsimp only at h1 h2 h3 h4 h5 h6 h7 h8 ⊢
    have hS2 : gone64 s b (k + 1) = ⟨(t64 S5 S6 S7 S8 Z X + ma64 S1 S2 S3) % 18446744073709551616, S1, S2, S3, (S4 + t64 S5 S6 S7 S8 Z X) % 18446744073709551616, S5, S6, S7⟩ := hS1
    have HS1 := yH hS2
    have HW := yH hW
    have HTOP := yH htop
    have bi : (k : Int) < 80 := by omega
    have b0 : (0 : Int) ≤ (k : Int) := by omega
    clear hS1 hS2 hW htop hy
    go_upto_region 5 with fail
    go_cut [12] from 63 to 113 (fun v wx => v = .int .u64 ((t64 S5 S6 S7 S8 Z X : Nat) : Int) ∧ ∃ q', wx = W.drewN q')
    case first =>
     go_quiet (first
      | (go_at_call 129; exact Calls.quiet_of (large164 _ _ h5))
      | (go_at_call 114; exact Calls.quiet_of_same (HTOP.out _)))
     have e1 : bits .xor .u64 (bits .and .u64 (S5 : Int) (S6 : Int)) (bits .and .u64 (bits .xor .u64 (if IntKind.u64.signed = true then -1 else IntKind.u64.max) (S5 : Int)) (S7 : Int)) = ((ch64 S5 S6 S7 : Nat) : Int) := chs64 h5 h6 h7
     go_step
     go_step
     go_meet
     refine ⟨?_, _, rfl⟩
     rw [e1]
     unfold t64
     generalize big3 64 S5 14 18 41 = z1
     generalize ch64 S5 S6 S7 = z2
     congr 1
     first
      | omega
      | rw [ts64]
      | (simp only [add64]; omega)
    case rest =>
     obtain ⟨rfl, q5, rfl⟩ := hcut
     generalize t64 S5 S6 S7 S8 Z X = t at *
     have e2 : bits .xor .u64 (bits .xor .u64 (bits .and .u64 (S1 : Int) (S2 : Int)) (bits .and .u64 (S1 : Int) (S3 : Int))) (bits .and .u64 (S2 : Int) (S3 : Int)) = ((maj64 S1 S2 S3 : Nat) : Int) := majs64 h1 h2 h3
     have E2 := yH e2
     clear e2
     go_wp2_with fail
     refine (large064 S1 _ h1).mono ?_
     rintro e w6 ⟨rfl, q6, rfl⟩
     go_wp2_with fail
     go_roundw
     case rel =>
      refine ⟨k + 1, by omega, by go_num, ?_, ?_, ?_, ?_, ?_, ?_, ?_, ?_, q + (q5 + q6), ?_⟩
      ·rw [HS1.out, E2.out]
       unfold ma64
       generalize big3 64 S1 28 34 39 = z1
       generalize maj64 S1 S2 S3 = z2
       congr 1 <;> first | omega | (simp only [add64]; done) | (simp only [add64]; omega)
      ·rw [HS1.out]
      ·rw [HS1.out]
      ·rw [HS1.out]
      ·rw [HS1.out]
       congr 1 <;> first | omega | (simp only [add64]; done) | (simp only [add64]; omega)
      ·rw [HS1.out]
      ·rw [HS1.out]
      ·rw [HS1.out]
      ·rw [← HW.out, World.drewN_drewN]
     case measure => simp [intOf]; omega
   ·have hie : k = 80 := by omega
    subst hie
    have hrow2 : Tb64 (wc.drewN q) g T s.list b n := HT1.out
    have hmx : par64 s.list (gone64 s b 80).list 8 = mxd64 s b := rfl
    generalize gone64 s b 80 = S at *
    obtain ⟨S1, S2, S3, S4, S5, S6, S7, S8⟩ := S
    obtain ⟨s1, s2, s3, s4, s5, s6, s7, s8⟩ := s
    dsimp only [S8x64.list] at hrow2 hmx ⊢
    have HROW2 := yH hrow2
    have HMX := yH hmx
    clear hrow2 hmx
    go_upto_region 9 with fail
    go_wp2_with fail
    go_loopw [123] (fun i wr => ∃ k : Nat, k ≤ 8 ∧ i = .int .i64 k ∧ Tb64 wr g T (par64 [s1, s2, s3, s4, s5, s6, s7, s8] [S1, S2, S3, S4, S5, S6, S7, S8] k) b n ∧ Only (· = g) w wr) (fun i _ => 8 - (intOf i).toNat)
    case atStart => exact ⟨0, by decide, rfl, HROW2.out, (Only.of_below HBE.out _).drewN q⟩
    case round =>
     obtain ⟨k, hk, rfl, hat, hon⟩ := hrel
     have HAT := yH hat
     have HON := yH hon
     clear hat hon
     by_cases hlt : k < 8
     ·go_upto_region 11 with fail
      go_cut [14, 15] from 124 to 138 (fun u v wx => u = .int .i64 k ∧ v = .int .u64 (([S1, S2, S3, S4, S5, S6, S7, S8].getD k 0 : Nat) : Int) ∧ Tb64 wx g T (par64 [s1, s2, s3, s4, s5, s6, s7, s8] [S1, S2, S3, S4, S5, S6, S7, S8] k) b n ∧ Only (· = g) w wx)
      case first =>
       have hix := idx64 S1 S2 S3 S4 S5 S6 S7 S8 k hlt
       go_wp2_with fail
       go_meet
       refine ⟨rfl, ?_, HAT.out, HON.out⟩
       first
        | rfl
        | (rw [List.getD, List.getElem?_eq_getElem hlt]; rfl)
      case rest =>
       obtain ⟨rfl, rfl, hat2, hon2⟩ := hcut
       have kc := hat2.cell (k := k) (by rw [par64_len _ _ _ _ _ _ _ _ _ _ _ _ _ _ _ _ k hk]; exact hlt)
       rw [par64_at _ _ _ _ _ _ _ _ _ _ _ _ _ _ _ _ k hlt] at kc
       have kf := hat2.free k
       have nx := par64_set s1 s2 s3 s4 s5 s6 s7 s8 S1 S2 S3 S4 S5 S6 S7 S8 k hlt
       have st := hat2.set (k := k) (by rw [par64_len _ _ _ _ _ _ _ _ _ _ _ _ _ _ _ _ k hk]; exact hlt)
       generalize [s1, s2, s3, s4, s5, s6, s7, s8].getD k 0 = x at *
       generalize [S1, S2, S3, S4, S5, S6, S7, S8].getD k 0 = y at *
       have NX := yH nx
       have ST := yH st
       have HON2 := yH hon2
       have bi : (k : Int) < 8 := by omega
       have b0 : (0 : Int) ≤ (k : Int) := by omega
       clear nx st hat2 hon2
       go_upto_region 12 with fail
       go_region
       go_wp2_with fail
       go_roundw
       case rel =>
        have hst := ST.out ((x + y) % 18446744073709551616)
        rw [NX.out] at hst
        have e : ((x : Int) + y) % 18446744073709551616 = (((x + y) % 18446744073709551616 : Nat) : Int) := by omega
        refine ⟨k + 1, by omega, by go_num, ?_, ?_⟩
        ·first
          | rw [e]
          | rw [add64]
         exact hst
        ·exact (HON2.out.setCell (.inl rfl) _).drew
       case measure => simp [intOf]; omega
     ·have hie : k = 8 := by omega
      subst hie
      go_wp2_with fail
      go_end0
      exact ⟨rfl, by rw [← HMX.out]; exact HAT.out, HON.out⟩
theorem Tb64.size {w : World} {g : Nat} {T : TypeId} {l b : List Nat} {n : Int} (h : Tb64 w g T l b n) (hl : l.length = 8) (hb : b.length = 16) : w.cell? ⟨g, 24, none⟩ = some (.int .i64 n) := by
 have e : (Us64 (l ++ b)).length = 24 := by rw [Us64_length, List.length_append, hl, hb]
 rw [cell_of_row w g 24 _ _ _ h, List.getElem?_toArray, List.getElem?_append_right (by omega), e]
 rfl
set_option maxHeartbeats 400000 in
theorem filled64 (l b : List Nat) (n : Nat) (T : TypeId) (g : Nat) (w : World) (ht : Tb64 w g T l b n) (hl : l.length = 8) (hb : b.length = 16) :
  Calls Tryz.prog 117 #[.pointer (some ⟨g, 0, none⟩)] w fun e w' => e = .returned (.int .i64 ((n % 128 : Nat) : Int)) ∧ ∃ q, w' = w.drewN q := by
 have c := ht.size hl hb
 have hr : Int.tmod (n : Int) 128 = ((n % 128 : Nat) : Int) := by rw [Int.tmod_eq_emod_of_nonneg (by omega)]; omega
 have HR := yH hr
 clear ht hl hb hr
 go_enter Tryz.func117, Tryz.ntmps117
 go_upto_region 1 with fail
 go_quiet ((go_at_call 116; exact Calls.quiet_of_same (bytes64 _)))
 go_wp2_with fail
 go_ret
 refine ⟨?_, _, rfl⟩
 first
  | rfl
  | (rw [← HR.out])
  | trace_state
def mxs64 (s : S8x64) (b : List Nat) : S8x64 :=
 let t := gone64 s b 80
 ⟨(s.a + t.a) % 18446744073709551616, (s.b + t.b) % 18446744073709551616, (s.c + t.c) % 18446744073709551616, (s.d + t.d) % 18446744073709551616, (s.e + t.e) % 18446744073709551616, (s.f + t.f) % 18446744073709551616, (s.g + t.g) % 18446744073709551616, (s.h + t.h) % 18446744073709551616⟩
theorem mxs64_list (s : S8x64) (b : List Nat) : (mxs64 s b).list = mxd64 s b := by
 unfold mxs64 mxd64
 generalize gone64 s b 80 = t
 rfl
theorem mxs64_ok (s : S8x64) (b : List Nat) : (mxs64 s b).ok := ⟨Nat.mod_lt _ (by decide), Nat.mod_lt _ (by decide), Nat.mod_lt _ (by decide), Nat.mod_lt _ (by decide), Nat.mod_lt _ (by decide), Nat.mod_lt _ (by decide), Nat.mod_lt _ (by decide), Nat.mod_lt _ (by decide)⟩
def blk64 (b : List Nat) (n c : Nat) : List Nat := b.set (n / 8 % 16) (b.getD (n / 8 % 16) 0 * 256 % 18446744073709551616 ||| c)
def now64 (s : S8x64) (b : List Nat) (n c : Nat) : S8x64 := if (n + 1) % 128 = 0 then mxs64 s (blk64 b n c) else s
theorem blk64_len (b : List Nat) (n c : Nat) : (blk64 b n c).length = b.length := List.length_set
theorem ors64 (x c : Nat) (hc : c < 256) : bits .or .u64 (((x * 256 % 18446744073709551616 : Nat)) : Int) (c : Int) = ((x * 256 % 18446744073709551616 ||| c : Nat) : Int) := u64_or_nat _ _ (Nat.mod_lt _ (by decide)) (by omega)
theorem blk64_lt {b : List Nat} (h : ∀ x ∈ b, x < 18446744073709551616) (n : Nat) {c : Nat} (hc : c < 256) : ∀ x ∈ blk64 b n c, x < 18446744073709551616 := by
 intro x hx
 rcases List.mem_or_eq_of_mem_set hx with h' | h'
 ·exact h x h'
 ·rw [h']
  exact Nat.or_lt_two_pow (n := 64) (Nat.mod_lt _ (by decide)) (by omega)
theorem Tb64.word {w : World} {g : Nat} {T : TypeId} {l b : List Nat} {n : Int} (h : Tb64 w g T l b n) (hl : l.length = 8) {k : Nat} (hk : k < b.length) : w.cell? ⟨g, 8 + k, none⟩ = some (.int .u64 ((b.getD k 0 : Nat) : Int)) := by
 have := h.block k (.int .u64 ((b.getD k 0 : Nat) : Int)) (by rw [Us64_get, List.getD, List.getElem?_eq_getElem hk]; rfl)
 rw [hl] at this
 exact this
theorem Tb64.setWord {w : World} {g : Nat} {T : TypeId} {l b : List Nat} {n : Int} (h : Tb64 w g T l b n) (hl : l.length = 8) {k : Nat} (hk : k < b.length) (x : Nat) : Tb64 (w.setCell ⟨g, 8 + k, none⟩ (.int .u64 ((x : Nat) : Int))) g T l (b.set k x) n := by
 unfold Tb64 at h ⊢
 rw [heap_setCell_same w g _ _ _ _ h]
 congr 2
 have h1 : 8 + k < (Us64 (l ++ b)).length := by rw [Us64_length, List.length_append, hl]; omega
 have h2 : (Us64 l).length ≤ 8 + k := by rw [Us64_length, hl]; omega
 rw [List.setIfInBounds_toArray, List.set_append_left _ _ h1, Us64_append, Us64_append, List.set_append_right _ _ h2, Us64_length, hl, Nat.add_sub_cancel_left]
 simp [Us64, List.map_set]
theorem Tb64.setSize {w : World} {g : Nat} {T : TypeId} {l b : List Nat} {n : Int} (h : Tb64 w g T l b n) (hl : l.length = 8) (hb : b.length = 16) (m : Int) : Tb64 (w.setCell ⟨g, 24, none⟩ (.int .i64 m)) g T l b m := by
 unfold Tb64 at h ⊢
 rw [heap_setCell_same w g _ _ _ _ h]
 congr 2
 have h2 : (Us64 (l ++ b)).length = 24 := by rw [Us64_length, List.length_append, hl, hb]
 rw [List.setIfInBounds_toArray, List.set_append_right _ _ (by omega), h2]
 rfl
set_option maxHeartbeats 800000 in
theorem put64 (s : S8x64) (b : List Nat) (n c : Nat) (T : TypeId) (g : Nat) (w : World) (ho : s.ok) (hb : b.length = 16) (hm : ∀ x ∈ b, x < 18446744073709551616) (hk : Ks64 w) (ht : Tb64 w g T s.list b n) (hn : n < 4611686018427387904) (hc : c < 256) (hg : g ≠ 7) :
    Calls Tryz.prog 115 #[.pointer (some ⟨g, 0, none⟩), .int .u8 c] w fun e w' => e = .returned (.tuple #[]) ∧ Tb64 w' g T (now64 s b n c).list (blk64 b n c) ((n + 1 : Nat) : Int) ∧ Only (· = g) w w' := by
  have HO := yH ho
  have HB := yH hb
  have HM := yH hm
  have HK := yH hk
  have HT := yH ht
  have HG := yH hg
  have HN := yH hn
  have c0 := ht.size (by rfl) hb
  have hi : n / 8 % 16 < 16 := Nat.mod_lt _ (by decide)
  have hr : Int.tmod (Int.tdiv (n : Int) 8) 16 = ((n / 8 % 16 : Nat) : Int) := by
    rw [Int.tdiv_eq_ediv_of_nonneg (by omega), Int.tmod_eq_emod_of_nonneg (by omega)]
    omega
  have HR := yH hr
  clear ho hb hm hk ht hg hr hn
  go_enter Tryz.func115, Tryz.ntmps115
  go_upto_region 0 with fail
  go_cut [4] from 5 to 11 (fun v wx => v = .int .i64 ((n / 8 % 16 : Nat) : Int) ∧ ∃ q, wx = w.drewN q)
  case first =>
    go_quiet ((go_at_call 116; exact Calls.quiet_of_same (bytes64 _)))
    go_step
    go_step
    go_meet
    refine ⟨?_, _, rfl⟩
    first
      | rfl
      | (rw [← HR.out]; done)
      | (have h64 : wrap64 ((n : Int) / 8) = (n : Int) / 8 := by have := HN.out; unfold wrap64; omega
         rw [h64, ← HR.out, Int.tdiv_eq_ediv_of_nonneg (by omega)])
  case rest =>
    obtain ⟨rfl, q, rfl⟩ := hcut
    have k1 := Tb64.word (w := w) HT.out rfl (k := n / 8 % 16) (by rw [HB.out]; exact hi)
    have st := fun x => Tb64.setWord (w := w.drewN (q + 1)) HT.out rfl (k := n / 8 % 16) (by rw [HB.out]; exact hi) x
    have kf := Tb64.free (w := w) HT.out (8 + n / 8 % 16)
    have hbk : blk64 b n c = b.set (n / 8 % 16) (b.getD (n / 8 % 16) 0 * 256 % 18446744073709551616 ||| c) := rfl
    have HBK := yH hbk
    have ST := yH st
    clear st c0 hbk
    generalize n / 8 % 16 = i at *
    generalize b.getD i 0 = x at *
    have bi : (i : Int) < 16 := by omega
    have b0 : (0 : Int) ≤ (i : Int) := by omega
    go_upto_region 1 with fail
    go_cut [4] from 5 to 26 (fun _ wx => Tb64 wx g T s.list (blk64 b n c) n ∧ Only (· = g) w wx)
    case first =>
      go_region
      go_step
      go_step
      go_meet
      have e0 : (x : Int) * 256 % 18446744073709551616 = ((x * 256 % 18446744073709551616 : Nat) : Int) := by omega
      have e1 : IntKind.u64.wrap ((x : Int) * 256) = ((x * 256 % 18446744073709551616 : Nat) : Int) := by rw [show (x : Int) * 256 = ((x * 256 : Nat) : Int) by omega, wrap64_nat]
      refine ⟨?_, ((Only.refl (· = g) _).drewN _).setCell (.inl rfl) _⟩
      rw [HBK.out]
      first
        | rw [e0, ors64 x c hc]
        | rw [e1, ors64 x c hc]
      exact ST.out _
    case rest =>
      obtain ⟨hat, hon⟩ := hcut
      have hlb : (blk64 b n c).length = 16 := by rw [blk64_len]; exact HB.out
      have k2 := hat.size rfl hlb
      have kf2 := hat.free 24
      have st2 := hat.setSize rfl hlb ((n : Int) + 1)
      have hks : Ks64 wc := by
        have := HK.out
        unfold Ks64 at this ⊢
        rw [hon.block 7 HK.out.lt (fun e => HG.out e.symm)]
        exact this
      have HKS := yH hks
      have HLB := yH hlb
      have ST2 := yH st2
      have HON := yH hon
      clear hat hon hlb st2 hks k1 kf
      have sn : IntKind.i64.wrap ((n : Int) + 1) = (n : Int) + 1 := IntWalk.i64_in _ (by have := HN.out; omega)
      have hat3 : Tb64 (wc.setCell ⟨g, 24, none⟩ (.int .i64 ((n : Int) + 1))) g T s.list (blk64 b n c) ((n + 1 : Nat) : Int) := by
        rw [show ((n + 1 : Nat) : Int) = (n : Int) + 1 by omega]
        exact ST2.out
      have hon3 : Only (· = g) w (wc.setCell ⟨g, 24, none⟩ (.int .i64 ((n : Int) + 1))) := HON.out.setCell (.inl rfl) _
      have hks3 : Ks64 (wc.setCell ⟨g, 24, none⟩ (.int .i64 ((n : Int) + 1))) := by
        have := HK.out
        unfold Ks64 at this ⊢
        rw [hon3.block 7 HK.out.lt (fun e => HG.out e.symm)]
        exact this
      have hf : Calls Tryz.prog 117 #[.pointer (some ⟨g, 0, none⟩)] (wc.setCell ⟨g, 24, none⟩ (.int .i64 ((n : Int) + 1))) fun e w' => e = .returned (.int .i64 (((n + 1) % 128 : Nat) : Int)) ∧ ∃ q, w' = (wc.setCell ⟨g, 24, none⟩ (.int .i64 ((n : Int) + 1))).drewN q := filled64 s.list (blk64 b n c) (n + 1) T g _ hat3 rfl HLB.out
      generalize hmm : (n + 1) % 128 = m at *
      have HF := yH hf
      have HAT3 := yH hat3
      have HON3 := yH hon3
      have HKS3 := yH hks3
      have H18446744073709551616 := yH hmm
      clear hf hat3 hon3 hks3 hmm
      go_upto_region 3 with fail
      go_wp2_with fail
      refine HF.out.mono ?_
      rintro e w4 ⟨rfl, q4, rfl⟩
      by_cases hz : m = 0
      · subst hz
        go_wp2_with fail
        refine (mix64 s (blk64 b n c) ((n + 1 : Nat) : Int) T g _ HO.out HLB.out (blk64_lt HM.out n hc) (by exact HKS3.out) (by exact HAT3.out)).mono ?_
        rintro e w5 ⟨rfl, h5, o5⟩
        go_wp2_with fail
        go_end0
        exact ⟨rfl, by unfold now64; rw [if_pos H18446744073709551616.out, mxs64_list]; exact h5, (HON3.out.drewN q4).trans o5 (fun _ _ h => h)⟩
      · have hz1 : ¬ (m : Int) = 0 := by omega
        go_wp2_with fail
        go_end0
        exact ⟨rfl, by unfold now64; rw [if_neg (by rw [H18446744073709551616.out]; exact hz)]; exact HAT3.out, HON3.out.drewN q4⟩
def fed64 (t : S8x64 × List Nat × Nat) (xs : List Nat) : S8x64 × List Nat × Nat :=
 xs.foldl (fun t c => (now64 t.1 t.2.1 t.2.2 c, blk64 t.2.1 t.2.2 c, t.2.2 + 1)) t
theorem fed64_snoc (t : S8x64 × List Nat × Nat) (xs : List Nat) (c : Nat) : fed64 t (xs ++ [c]) = (now64 (fed64 t xs).1 (fed64 t xs).2.1 (fed64 t xs).2.2 c, blk64 (fed64 t xs).2.1 (fed64 t xs).2.2 c, (fed64 t xs).2.2 + 1) := by
 simp [fed64, List.foldl_append]
theorem fed64_append (t : S8x64 × List Nat × Nat) (xs ys : List Nat) : fed64 t (xs ++ ys) = fed64 (fed64 t xs) ys := by
 simp [fed64, List.foldl_append]
theorem now64_ok {s : S8x64} (h : s.ok) (b : List Nat) (n c : Nat) : (now64 s b n c).ok := by
 unfold now64
 split
 ·exact mxs64_ok _ _
 ·exact h
structure Gd64 (t : S8x64 × List Nat × Nat) : Prop where
 ok : t.1.ok
 len : t.2.1.length = 16
 lt : ∀ x ∈ t.2.1, x < 18446744073709551616
theorem Gd64.next {t : S8x64 × List Nat × Nat} (h : Gd64 t) {c : Nat} (hc : c < 256) : Gd64 (now64 t.1 t.2.1 t.2.2 c, blk64 t.2.1 t.2.2 c, t.2.2 + 1) :=
 ⟨now64_ok h.ok _ _ _, (blk64_len _ _ _).trans h.len, blk64_lt h.lt _ hc⟩
theorem Gd64.fed : ∀ {xs : List Nat} {t : S8x64 × List Nat × Nat}, Gd64 t → (∀ x ∈ xs, x < 256) → Gd64 (fed64 t xs)
 | [], _, h, _ => h
 | c :: xs, _, h, hx => Gd64.fed (xs := xs) (h.next (hx c (List.mem_cons_self ..))) (fun x hm => hx x (List.mem_cons_of_mem _ hm))
theorem fed64_size : ∀ (xs : List Nat) (t : S8x64 × List Nat × Nat), (fed64 t xs).2.2 = t.2.2 + xs.length
 | [], t => rfl
 | c :: xs, t => by
  have := fed64_size xs (now64 t.1 t.2.1 t.2.2 c, blk64 t.2.1 t.2.2 c, t.2.2 + 1)
  simp only [List.length_cons]
  rw [show fed64 t (c :: xs) = fed64 (now64 t.1 t.2.1 t.2.2 c, blk64 t.2.1 t.2.2 c, t.2.2 + 1) xs from rfl, this]
  show t.2.2 + 1 + xs.length = _
  omega
set_option maxHeartbeats 800000 in
theorem take64 (t : S8x64 × List Nat × Nat) (xs : List Nat) (a : Option Addr) (n cap : Nat) (T : TypeId) (g : Nat) (w : World) (hx : ∀ x ∈ xs, x < 256) (ht : Gd64 t) (hk : Ks64 w) (hs : Tb64 w g T t.1.list t.2.1 (t.2.2 : Int)) (hn : t.2.2 + xs.length < 4611686018427387904) (hg : g ≠ 7)
  (hr : Rd w (fun k => k ≠ g) a n (xs.map fun x => .int .u8 ((x : Nat) : Int))) :
  Calls Tryz.prog 86 #[.pointer (some ⟨g, 0, none⟩), .slice a n cap] w fun e w' => e = .returned (.tuple #[]) ∧ Tb64 w' g T (fed64 t xs).1.list (fed64 t xs).2.1 ((fed64 t xs).2.2 : Int) ∧ Only (· = g) w w' := by
 have hl : xs.length = n := by have := hr.1; simpa using this
 have HX := yH hx
 have HT := yH ht
 have HK := yH hk
 have HS := yH hs
 have HN := yH hn
 have HG := yH hg
 have HR := yH hr
 have HL := yH hl
 clear hx ht hk hs hn hg hr hl
 go_enter Tryz.func86, Tryz.ntmps86
 go_wp2_with fail
 go_loopw [8] (fun i wr => ∃ k : Nat, k ≤ n ∧ i = .int .i64 k ∧ Tb64 wr g T (fed64 t (xs.take k)).1.list (fed64 t (xs.take k)).2.1 ((fed64 t (xs.take k)).2.2 : Int) ∧ Only (· = g) w wr) (fun i _ => n - (intOf i).toNat)
 case atStart => exact ⟨0, Nat.zero_le _, rfl, HS.out, Only.refl _ _⟩
 case round =>
  obtain ⟨k, hkn, rfl, hat, hon⟩ := hrel
  by_cases hlt : k < n
  ·obtain ⟨ad, e, hF, hB, hC⟩ := HR.out.2 (by omega)
   have hc := hC k (.int .u8 ((xs.getD k 0 : Nat) : Int)) (by rw [List.getElem?_map, List.getD, List.getElem?_eq_getElem (by rw [HL.out]; exact hlt)]; rfl)
   have hc2 := (hon.cell (a := ad.add k) (by rw [add_block]; exact hF) (by rw [add_block]; exact hB)).trans hc
   have hlen : k < xs.length := by rw [HL.out]; exact hlt
   have h256 : xs.getD k 0 < 256 := by rw [List.getD, List.getElem?_eq_getElem hlen]; exact HX.out _ (List.getElem_mem _)
   have hup : fed64 t (xs.take (k + 1)) = (now64 (fed64 t (xs.take k)).1 (fed64 t (xs.take k)).2.1 (fed64 t (xs.take k)).2.2 (xs.getD k 0), blk64 (fed64 t (xs.take k)).2.1 (fed64 t (xs.take k)).2.2 (xs.getD k 0), (fed64 t (xs.take k)).2.2 + 1) := by
    rw [← fed64_snoc, List.take_add_one, List.getD, List.getElem?_eq_getElem hlen]; rfl
   have hgd : Gd64 (fed64 t (xs.take k)) := HT.out.fed (fun x h => HX.out x (List.mem_of_mem_take h))
   have hsz : (fed64 t (xs.take k)).2.2 < 4611686018427387904 := by rw [fed64_size, List.length_take]; have := HN.out; omega
   generalize xs.getD k 0 = c at *
   generalize fed64 t (xs.take k) = u at *
   have hp := put64 u.1 u.2.1 u.2.2 c T g _ hgd.ok hgd.len hgd.lt (by have := HK.out; unfold Ks64 at this ⊢; rw [hon.block 7 HK.out.lt (fun e => HG.out e.symm)]; exact this) hat hsz h256 HG.out
   have HP := yH hp
   have HON := yH hon
   have HUP := yH hup
   subst e
   clear hp hon hup hat hgd hsz hC hc hF hB h256 hlen
   go_wp2_with fail
   refine HP.out.mono ?_
   rintro e w4 ⟨rfl, h4, o4⟩
   have H4 := yH h4
   have O4 := yH o4
   clear h4 o4
   have sk : IntKind.i64.wrap ((k : Int) + 1) = (k : Int) + 1 := by first | exact IntWalk.i64_in _ (by have := HN.out; have := HL.out; omega)
   go_wp2_with fail
   go_roundw
   case rel =>
    refine ⟨k + 1, by omega, by go_num, ?_, HON.out.trans O4.out (fun _ _ h => h)⟩
    rw [HUP.out]
    exact H4.out
   case measure => simp [intOf]; omega
  ·have hie : k = n := by omega
   subst hie
   have hfin : xs.take k = xs := List.take_of_length_le (by rw [HL.out]; exact Nat.le_refl _)
   rw [hfin] at hat
   have HAT := yH hat
   have HON := yH hon
   clear hat hon hfin
   go_wp2_with fail
   go_end0
   exact ⟨rfl, HAT.out, HON.out⟩
end Go.Proofs.YtnpjecdodhkplaaGreatDoor
