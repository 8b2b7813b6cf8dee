import Derived.Great.BuildSlice
import Derived.Laws.OwnMore
import Derived.Test.YtnpjecdodhkplaaGreatDoorSO
namespace Go.Proofs.YtnpjecdodhkplaaGreatDoor
set_option maxRecDepth 100000
set_option linter.unusedSimpArgs false
open Go.RowKit
open List renaming setIfInBounds_toArray → yA, set_cons_zero → yB, set_cons_succ → yC
open Lib renaming hid → yH
theorem r_lt (x : Nat) : x % qq < 256 ^ 32 := by rw [p32]; exact Nat.lt_trans (Nat.mod_lt _ qq_pos) qq_lt
def mulq (A B C : Nat) : Nat := (A * B + C) % qq
def sumq (l : List Nat) : Nat := l.sum % qq
def negq (A : Nat) : Nat := (qq - A % qq) % qq
theorem r1 (A B : Nat) : mulq A B 0 = mulq B A 0 := by unfold mulq; rw [Nat.mul_comm]
theorem r2 (A B C : Nat) : mulq (mulq A B 0) C 0 = mulq A (mulq B C 0) 0 := by
 unfold mulq
 simp only [Nat.add_zero]
 rw [Nat.mod_mul_mod, Nat.mul_mod_mod, Nat.mul_assoc]
theorem r3 (A B C : Nat) : sumq [A, B, C] = sumq [C, sumq [B, A]] := by
 unfold sumq
 simp only [List.sum_cons, List.sum_nil, Nat.add_zero]
 rw [Nat.add_mod_mod]
 congr 1
 omega
theorem r4 (A B C : Nat) : mulq A (sumq [B, C]) 0 = mulq A B (mulq A C 0) := by
 unfold sumq mulq
 simp only [List.sum_cons, List.sum_nil, Nat.add_zero]
 rw [Nat.mul_mod_mod, Nat.add_mod_mod, Nat.mul_add]
theorem r5 (A : Nat) : sumq [A, negq A] = 0 := by
 unfold sumq negq
 simp only [List.sum_cons, List.sum_nil, Nat.add_zero]
 rw [Nat.add_mod_mod, ← Nat.mod_add_mod]
 have h := Nat.mod_lt A qq_pos
 rw [show A % qq + (qq - A % qq) = qq by omega, Nat.mod_self]
theorem r6 (A : Nat) : negq (negq A) = mulq 1 A 0 := by
 unfold mulq negq
 rw [Nat.mod_mod, Nat.one_mul, Nat.add_zero]
 have h := Nat.mod_lt A qq_pos
 by_cases h0 : A % qq = 0
 ·rw [h0, Nat.sub_zero, Nat.mod_self, Nat.sub_zero, Nat.mod_self]
 ·rw [Nat.mod_eq_of_lt (a := qq - A % qq) (by omega), show qq - (qq - A % qq) = A % qq by omega, Nat.mod_mod]
structure Pk (w : World) (B X Y Z : Nat) : Prop where
 a : Row w B 22 (By X 32)
 b : Row w (B + 1) 22 (By Y 32)
 c : Row w (B + 1 + 1) 22 (By Z 32)
 z : Row w (B + 1 + 1 + 1) 22 (By 0 32)
 o : Row w (B + 1 + 1 + 1 + 1) 22 (By 1 32)
 q : Qt w
theorem Pk.below {w w' : World} {B X Y Z : Nat} (h : Pk w B X Y Z) (hb : Below w.heap.size w w') : Pk w' B X Y Z :=
 ⟨h.a.belowAll hb, h.b.belowAll hb, h.c.belowAll hb, h.z.belowAll hb, h.o.belowAll hb, h.q.below hb h.q.lt⟩
theorem byt_succ (N i : Nat) : N / 256 ^ i = 256 * (N / 256 ^ (i + 1)) + byt N i := by
 unfold byt
 rw [← pow256, Nat.pow_succ, ← Nat.div_div_eq_div_mul]
 omega
theorem byt_of_lt {N i : Nat} (h : N < 256 ^ i) : byt N i = 0 := by
 unfold byt
 rw [← pow256, Nat.div_eq_of_lt h]
theorem byt_of_lt' {N n i : Nat} (h : N < 256 ^ n) (hi : n ≤ i) : byt N i = 0 := byt_of_lt (Nat.lt_of_lt_of_le h (Nat.pow_le_pow_right (by decide) hi))
theorem byt_shift (N up i : Nat) : byt (N * 256 ^ up) i = if i < up then 0 else byt N (i - up) := by
 unfold byt
 rw [← pow256]
 by_cases h : i < up
 ·rw [if_pos h, show up = i + (up - i - 1 + 1) by omega, Nat.pow_add, ← Nat.mul_assoc, Nat.mul_right_comm, Nat.mul_div_cancel _ (Nat.pow_pos (by decide)), Nat.pow_succ, ← Nat.mul_assoc, Nat.mul_mod_left]
 ·rw [if_neg h, ← pow256]
  congr 1
  rw [show i = up + (i - up) by omega, Nat.pow_add, ← Nat.div_div_eq_div_mul, Nat.mul_div_cancel _ (Nat.pow_pos (by decide)), show up + (i - up) - up = i - up by omega]
theorem cmp_same {A B i : Nat} (h : A / 256 ^ (i + 1) = B / 256 ^ (i + 1)) (he : byt A i = byt B i) : A / 256 ^ i = B / 256 ^ i := by
 rw [byt_succ A, byt_succ B, h, he]
theorem cmp_less {A B i : Nat} (h : A / 256 ^ (i + 1) = B / 256 ^ (i + 1)) (hne : byt A i ≠ byt B i) : decide (byt A i < byt B i) = decide (A < B) := by
 have ha := byt_succ A i
 have hb := byt_succ B i
 rw [h] at ha
 have hlt : ∀ {X Y : Nat}, X / 256 ^ i < Y / 256 ^ i → X < Y := fun {X Y} hq => by
  rcases Nat.lt_or_ge X Y with h1 | h1
  ·exact h1
  ·exact absurd (Nat.div_le_div_right (c := 256 ^ i) h1) (by omega)
 by_cases hl : byt A i < byt B i
 ·rw [decide_eq_true hl, decide_eq_true (hlt (by omega))]
 ·have : B < A := hlt (by omega)
  rw [decide_eq_false hl, decide_eq_false (by omega)]
def brb (A B k : Nat) : Nat := if A % 256 ^ k < B % 256 ^ k then 1 else 0
theorem brb_le (A B k : Nat) : brb A B k ≤ 1 := by unfold brb; split <;> omega
theorem brb_zero (A B : Nat) : brb A B 0 = 0 := by
 unfold brb
 rw [Nat.pow_zero, Nat.mod_one, Nat.mod_one, if_neg (by omega)]
def cyb (A B k : Nat) : Nat := (A % 256 ^ k + B % 256 ^ k) / 256 ^ k
theorem p256 (k : Nat) : 0 < 256 ^ k := Nat.pow_pos (by decide)
theorem sum_byt (A B k : Nat) : byt A k + byt B k + cyb A B k = byt (A + B) k + 256 * cyb A B (k + 1) := by
 have e : (A + B) / 256 ^ k = cyb A B k + A / 256 ^ k + B / 256 ^ k := by
  have h1 : A + B = A % 256 ^ k + B % 256 ^ k + 256 ^ k * (A / 256 ^ k + B / 256 ^ k) := by
   rw [Nat.mul_add]
   have := Nat.mod_add_div A (256 ^ k)
   have := Nat.mod_add_div B (256 ^ k)
   omega
  rw [h1, Nat.add_mul_div_left _ _ (p256 k)]
  unfold cyb
  omega
 have e2 : (A + B) / 256 ^ (k + 1) = cyb A B (k + 1) + A / 256 ^ (k + 1) + B / 256 ^ (k + 1) := by
  have h1 : A + B = A % 256 ^ (k + 1) + B % 256 ^ (k + 1) + 256 ^ (k + 1) * (A / 256 ^ (k + 1) + B / 256 ^ (k + 1)) := by
   rw [Nat.mul_add]
   have := Nat.mod_add_div A (256 ^ (k + 1))
   have := Nat.mod_add_div B (256 ^ (k + 1))
   omega
  rw [h1, Nat.add_mul_div_left _ _ (p256 (k + 1))]
  unfold cyb
  omega
 have h3 := byt_succ (A + B) k
 have h4 := byt_succ A k
 have h5 := byt_succ B k
 omega
theorem dif_byt {A B D : Nat} (h : D + B = A) (k : Nat) : byt D k + byt B k + brb A B k = byt A k + 256 * brb A B (k + 1) := by
 have hc : ∀ j, cyb D B j = brb A B j := fun j => by
  subst h
  unfold cyb brb
  have ha := Nat.mod_lt D (p256 j)
  have hb := Nat.mod_lt B (p256 j)
  rw [Nat.add_mod]
  generalize D % 256 ^ j = d at *
  generalize B % 256 ^ j = b at *
  generalize 256 ^ j = m at *
  by_cases hlt : d + b < m
  ·rw [Nat.mod_eq_of_lt hlt, Nat.div_eq_of_lt hlt, if_neg (by omega)]
  ·have e : d + b = (d + b - m) + m := by omega
   have e1 : (d + b) % m = d + b - m := by rw [e, Nat.add_mod_right, Nat.mod_eq_of_lt (by omega)]; omega
   have e2 : (d + b) / m = 1 := by rw [e, Nat.add_div_right _ (by omega), Nat.div_eq_of_lt (by omega)]
   rw [e1, e2, if_pos (by omega)]
 have hs := sum_byt D B k
 rw [hc, hc, h] at hs
 exact hs
def mixb (D A k i : Nat) : Nat := if i < k then byt D i else byt A i
theorem mixb_zero (D A n : Nat) : Tabs .i64 (mixb D A 0) n = Tabs .i64 (byt A) n := Tabs_congr _ fun i _ => by unfold mixb; rw [if_neg (by omega)]
theorem mixb_all (D A n : Nat) : Tabs .i64 (mixb D A n) n = Tabs .i64 (byt D) n := Tabs_congr _ fun i h => by unfold mixb; rw [if_pos h]
theorem mixb_set (D A n : Nat) {k : Nat} (hk : k < n) : (Tabs .i64 (mixb D A k) n).set k (.int .i64 ((byt D k : Nat) : Int)) = Tabs .i64 (mixb D A (k + 1)) n := by
 refine List.ext_getElem? fun j => ?_
 by_cases hj : j < n
 ·rw [List.getElem?_set, Tabs_get _ _ _ hj, Tabs_get _ _ _ hj]
  unfold mixb
  by_cases e : k = j
  ·subst e; rw [if_pos rfl, if_pos (by rw [Tabs_length]; exact hk), if_pos (by omega)]
  ·rw [if_neg e]
   by_cases h2 : j < k
   ·rw [if_pos h2, if_pos (by omega)]
   ·rw [if_neg h2, if_neg (by omega)]
 ·rw [List.getElem?_eq_none (by rw [List.length_set, Tabs_length]; omega), List.getElem?_eq_none (by rw [Tabs_length]; omega)]
theorem at_pos (N n : Nat) (hN : N < 256 ^ n) (a : Option Addr) (cap : Nat) (F : Nat → Prop) (i : Nat) (w : World) (hi : i < 4611686018427387904) (hn : n < 4611686018427387904) (hr : Rd w F a n (Tabs .i64 (byt N) n)) :
  Calls Tryz.prog 113 #[.slice a n cap, .int .i64 (i : Int)] w fun e w' => e = .returned (.int .i64 ((byt N i : Nat) : Int)) ∧ w' = w := by
 by_cases h : i < n
 ·obtain ⟨ad, e, _, _, hC⟩ := hr.2 (by omega)
  have hc := hC i _ (Tabs_get .i64 (byt N) n h)
  subst e
  clear hC hr hN
  go_enter Tryz.func113, Tryz.ntmps113
  go_wp2_with fail
  go_ret
  exact ⟨rfl, rfl⟩
 ·have hz : byt N i = 0 := byt_of_lt' hN (by omega)
  rw [hz]
  have h2 : (n : Int) ≤ (i : Int) := by omega
  clear hr hN hz
  go_enter Tryz.func113, Tryz.ntmps113
  go_wp2_with fail
  go_ret
  exact ⟨rfl, rfl⟩
theorem at_neg (a : Option Addr) (n cap : Nat) (i : Int) (w : World) (hi : i < 0) :
  Calls Tryz.prog 113 #[.slice a n cap, .int .i64 i] w fun e w' => e = .returned (.int .i64 0) ∧ w' = w := by
 go_enter Tryz.func113, Tryz.ntmps113
 go_wp2_with fail
 go_ret
 exact ⟨rfl, rfl⟩
theorem at_up (N n up : Nat) (hN : N < 256 ^ n) (a : Option Addr) (cap : Nat) (F : Nat → Prop) (i : Nat) (w : World) (hi : i < 4611686018427387904) (hn : n < 4611686018427387904) (hr : Rd w F a n (Tabs .i64 (byt N) n)) :
  Calls Tryz.prog 113 #[.slice a n cap, .int .i64 ((i : Int) - (up : Int))] w fun e w' => e = .returned (.int .i64 ((byt (N * 256 ^ up) i : Nat) : Int)) ∧ w' = w := by
 rw [byt_shift]
 by_cases h : i < up
 ·rw [if_pos h]
  exact at_neg a n cap _ w (by omega)
 ·rw [if_neg h, show ((i : Int) - (up : Int)) = ((i - up : Nat) : Int) by omega]
  exact at_pos N n hN a cap F (i - up) w (by omega) hn hr
theorem q_digits : Tabs .i64 (byt qq) 32 = [.int .i64 237, .int .i64 211, .int .i64 245, .int .i64 92, .int .i64 26, .int .i64 99, .int .i64 18, .int .i64 88, .int .i64 214, .int .i64 156, .int .i64 247, .int .i64 162, .int .i64 222, .int .i64 249, .int .i64 222, .int .i64 20, .int .i64 0, .int .i64 0, .int .i64 0, .int .i64 0, .int .i64 0, .int .i64 0, .int .i64 0, .int .i64 0, .int .i64 0, .int .i64 0, .int .i64 0, .int .i64 0, .int .i64 0, .int .i64 0, .int .i64 0, .int .i64 16] := by kernel_rfl
theorem q_256 : qq < 256 ^ 32 := by rw [p32]; exact qq_lt
theorem Q_any (w : World) : Calls Tryz.prog 83 #[] w fun e w' => ∃ g : Nat, e = .returned (.slice (some ⟨g, 0, none⟩) 32 32) ∧ Row w' g 3 (Tabs .i64 (byt qq) 32) ∧ Below w.heap.size w w' := by
 go_enter Tryz.func83, Tryz.ntmps83
 go_wp2_with fail
 go_ret
 refine ⟨w.heap.size, rfl, ?_, (Below.refl _ _).alloc (Nat.le_refl _) _⟩
 rw [q_digits]
 exact Row.new w _ _
theorem int_inf : ((Tryz.prog.info? 3).map fun i => (i.zero, i.size, i.bytes)) = some (some (.int .i64 0), 1, 8) := by kernel_rfl
set_option maxHeartbeats 1600000 in
theorem digits_any (N n : Nat) (hn : n ≤ 64) (a : Option Addr) (cap : Nat) (F : Nat → Prop) (w : World) (hr : Rd w F a n (By N n)) :
  Calls Tryz.prog 82 #[.slice a n cap] w fun e w' => ∃ v, e = .returned v ∧ w'.ownsRow w.heap.size 3 1 v n (Tabs .i64 (byt N) n) ∧ Below w.heap.size w w' := by
 obtain ⟨i0, hi, hz0, hz1, hz2⟩ := info_parts int_inf
 have HR := yH hr
 have HI := yH hi
 have HZ0 := yH hz0
 have HZ1 := yH hz1
 have HZ2 := yH hz2
 clear hr hi hz0 hz1 hz2
 go_enter Tryz.func82, Tryz.ntmps82
 go_wp2_with fail
 go_loopw [3, 4] (fun v i wr => ∃ k : Nat, k ≤ n ∧ i = .int .i64 k ∧ wr.ownsRow w.heap.size 3 1 v k (Tabs .i64 (byt N) k) ∧ Below w.heap.size w wr) (fun _ i _ => n - (intOf i).toNat)
 case atStart => exact ⟨0, Nat.zero_le _, rfl, World.ownsRow_nil _ _ _ _, Below.refl _ _⟩
 case round =>
  obtain ⟨k, hkn, rfl, hown, hbe⟩ := hrel
  obtain ⟨A1, c1, rfl⟩ := own_slice hown
  by_cases hlt : k < n
  ·obtain ⟨ad, e, _, hB, hC⟩ := HR.out.2 (by omega)
   have hc := hC k _ (By_get N n hlt)
   have hc2 := (hbe.cell (p := ad.add k) (by rw [add_block]; exact hB)).trans hc
   have hsn := Tabs_snoc .i64 (byt N) k
   have hb255 := byt_lt N k
   have hrd := Rd.lit wr [Value.int .i64 ((byt N k : Nat) : Int)] #[Value.int .i64 ((byt N k : Nat) : Int)] 3 rfl 1 rfl
   have hown1 := hown.alloc (.cells #[Value.int .i64 ((byt N k : Nat) : Int)] 3)
   generalize byt N k = x at *
   have q1 : k + 1 ≤ maxLen := by unfold maxLen; omega
   have q2 : (k + 1) * 8 ≤ 140737488355328 := by omega
   have q3 : w.heap.size ≤ (wr.alloc (.cells #[Value.int .i64 (x : Int)] 3)).heap.size := by have := hbe.size; simp; omega
   have hbe1 := hbe.alloc hbe.size (.cells #[Value.int .i64 (x : Int)] 3)
   have hwx : IntKind.i64.wrap (x : Int) = (x : Int) := IntWalk.i64_in _ (by omega)
   have HOWN := yH hown1
   have HBE := yH hbe1
   have HRD := yH hrd
   have HSN := yH hsn
   have HQ1 := yH q1
   have HQ2 := yH q2
   have HQ3 := yH q3
   subst e
   clear hown hbe hB hC hc hsn hrd hown1 hbe1 q1 q2 q3
   go_wp2_with (at_builtin; refine wpList_append_rd _ rfl (.tmp 11) (.tmp 17) 117 rfl w.heap.size 3 i0 (.int .i64 0) 8 Tryz.underlying117 HI.out HZ0.out HZ1.out HZ2.out rfl (.slice A1 k c1) k (Tabs .i64 (byt N) k) rfl HOWN.out _ (some ⟨wr.heap.size, 0, none⟩) 1 1 [Value.int .i64 (x : Int)] rfl HRD.out (by intro u hu; rw [List.mem_singleton.1 hu]; rfl) HQ1.out HQ2.out HQ3.out ?_; intro v2 w2 hown2 hgrow hat; have HO2 := yH hown2; have hb2 := HBE.out.grown hgrow HQ3.out (fun q hq => (HOWN.out.lt q hq).1); have HB2 := yH hb2; clear hown2 hgrow hat hb2)
   go_roundw
   case rel => exact ⟨k + 1, by omega, by go_num, by rw [HSN.out]; exact HO2.out, HB2.out⟩
   case measure => simp [intOf] <;> omega
  ·obtain rfl : k = n := by omega
   have HOWN := yH hown
   have HBE := yH hbe
   clear hown hbe
   go_wp2_with fail
   go_ret
   exact ⟨_, rfl, HOWN.out, HBE.out⟩
set_option maxHeartbeats 1600000 in
theorem rbytes_any (N n : Nat) (hN : N < 256 ^ n) (hn : n ≤ 1000) (a : Option Addr) (cap : Nat) (F : Nat → Prop) (w : World) (hr : Rd w F a n (Tabs .i64 (byt N) n)) :
  Calls Tryz.prog 105 #[.slice a n cap] w fun e w' => e = .returned (.agg (By N 32).toArray) ∧ Below w.heap.size w w' := by
 have HR := yH hr
 have HN := yH hN
 clear hr hN
 go_enter Tryz.func105, Tryz.ntmps105
 go_wp2_with fail
 go_loopw [4] (fun i wr => ∃ k : Nat, k ≤ 32 ∧ i = .int .i64 k ∧ Row wr (w.heap.size + 1) 22 (Tab .u8 (byt N) 32 k) ∧ Row wr w.heap.size 22 (Tab .u8 (byt N) 32 0) ∧ Below w.heap.size w wr) (fun i _ => 32 - (intOf i).toNat)
 case atStart =>
  refine ⟨0, Nat.zero_le _, rfl, ?_, ?_, Below.alloc2 _ _ _⟩
  ·rw [Tab_zero]
   exact Row.new1 w _ (List.replicate 32 (.int .u8 0)) _
  ·rw [Tab_zero]
   exact (Row.new w (List.replicate 32 (.int .u8 0)) _).alloc _
 case round =>
  obtain ⟨k, hkn, rfl, hrow, hres, hbe⟩ := hrel
  by_cases hlt : k < 32
  ·have hat := at_pos N n HN.out a cap F k wr (by omega) (by omega) (HR.out.belowAll hbe)
   have hfree := hrow.free k
   have hold := hrow.cell (Tab_get .u8 (byt N) 32 k hlt)
   have hset := hrow.set k (.int .u8 ((byt N k : Nat) : Int))
   rw [By_set N 32 hlt] at hset
   have hres2 := hres.setCell (p := ⟨w.heap.size + 1, k, none⟩) (by show _ ≠ w.heap.size + 1; omega) (.int .u8 ((byt N k : Nat) : Int))
   have hb2 := hbe.setCell (p := ⟨w.heap.size + 1, k, none⟩) (by simp) (.int .u8 ((byt N k : Nat) : Int))
   have hb255 := byt_lt N k
   generalize byt N k = y at *
   have hwy : IntKind.u8.wrap (y : Int) = (y : Int) := by rw [IntKind.wrap_u8]; omega
   have HAT := yH hat
   have HSET := yH hset
   have HRES2 := yH hres2
   have HB2 := yH hb2
   clear hrow hres hbe hset hres2 hb2 hat
   go_wp2_with fail
   refine HAT.out.mono ?_
   rintro e w' ⟨rfl, rfl⟩
   go_wp2_with fail
   go_roundw
   case rel => exact ⟨k + 1, by omega, by go_num, HSET.out, HRES2.out, HB2.out⟩
   case measure => simp [intOf] <;> omega
  ·obtain rfl : k = 32 := by omega
   rw [Tab_done] at hrow
   rw [Tab_zero] at hres
   have hS := by_info N
   have hO : (List.replicate 32 (Value.int .u8 0)).toArray.size = (By N 32).toArray.size := by rw [List.size_toArray, List.size_toArray, By_length, List.length_replicate]
   have hrow2 : Row wr (w.heap.size + 1) 22 (By N 32) := hrow
   have HROW := yH hrow2
   have HRES := yH hres
   have HBE := yH hbe
   have HS4 := yH hS
   have HO4 := yH hO
   clear hrow hrow2 hres hbe hS hO
   go_wp2_with (first
    | (refine wpList_load_row rfl 22 (.tmp 3) rfl (w.heap.size + 1) rfl 22 _ (0, 0) _ HROW.out Tryz.underlying22 rfl HS4.out ?_)
    | (refine wpList_store_row rfl 22 (.tmp 2) (.tmp 15) rfl w.heap.size _ rfl rfl 22 _ HRES.out HS4.out HO4.out (By_one _ _) ?_))
   have hgot := setRow_heap wr w.heap.size _ (By N 32).toArray _ _ HRES.out
   refine bodyPost_ret (results_cell_row (by rfl) _ _ w.heap.size _ _ _ _ (by rfl) hgot Tryz.underlying22 rfl HS4.out) rfl ?_
   exact ⟨rfl, below_setRow HBE.out (by omega) _⟩
set_option maxHeartbeats 1600000 in
theorem less_any (A n B m up : Nat) (hA : A < 256 ^ n) (hB : B < 256 ^ m) (hn : n ≤ 1000) (hm : m ≤ 1000) (hup : up ≤ 1000) (a b : Option Addr) (ca cb : Nat) (F G : Nat → Prop) (w : World) (hra : Rd w F a n (Tabs .i64 (byt A) n)) (hrb : Rd w G b m (Tabs .i64 (byt B) m)) :
  Calls Tryz.prog 81 #[.slice a n ca, .slice b m cb, .int .i64 (up : Int)] w fun e w' => e = .returned (.bool (decide (A < B * 256 ^ up))) ∧ w' = w := by
 obtain ⟨N, hN⟩ : ∃ N, N = max n (m + up) := ⟨_, rfl⟩
 have hN1 : n ≤ N := by omega
 have hN2 : m + up ≤ N := by omega
 have hN3 : N ≤ 2000 := by omega
 have hAN : A < 256 ^ N := Nat.lt_of_lt_of_le hA (Nat.pow_le_pow_right (by decide) hN1)
 have hBN : B * 256 ^ up < 256 ^ N := by
  refine Nat.lt_of_lt_of_le ((Nat.mul_lt_mul_right (p256 up)).2 hB) ?_
  rw [← Nat.pow_add]
  exact Nat.pow_le_pow_right (by decide) hN2
 have hpa := fun i hi => at_pos A n hA a ca F i w hi (by omega) hra
 have hpb := fun i hi => at_up B m up hB b cb G i w hi (by omega) hrb
 have h0 : A / 256 ^ N = B * 256 ^ up / 256 ^ N := by rw [Nat.div_eq_of_lt hAN, Nat.div_eq_of_lt hBN]
 have hcs := fun i => cmp_same (A := A) (B := B * 256 ^ up) (i := i)
 have hcl := fun i => cmp_less (A := A) (B := B * 256 ^ up) (i := i)
 have hfin : A / 256 ^ 0 = B * 256 ^ up / 256 ^ 0 → decide (A < B * 256 ^ up) = false := fun h => by
  rw [Nat.pow_zero, Nat.div_one, Nat.div_one] at h
  rw [decide_eq_false (by omega)]
 have HPA := yH hpa
 have HPB := yH hpb
 have H0 := yH h0
 have HCS := yH hcs
 have HCL := yH hcl
 have HFIN := yH hfin
 have HNN := yH hN
 clear hA hB hra hrb hAN hBN hpa hpb h0 hcs hcl hfin hN
 generalize B * 256 ^ up = C at *
 go_enter Tryz.func81, Tryz.ntmps81
 by_cases hgt : n < m + up
 ·have hgi : (n : Int) < (m : Int) + (up : Int) := by omega
  have hnn : ((m : Int) + (up : Int)) - 1 = (N : Int) - 1 := by have := HNN.out; omega
  have HNI := yH hnn
  clear hnn
  go_wp2_with fail
  rw [HNI.out]
  go_loop [8] (fun i => ∃ k : Nat, k ≤ N ∧ i = .int .i64 ((k : Int) - 1) ∧ A / 256 ^ k = C / 256 ^ k) (fun i => (intOf i + 1).toNat)
  case atStart => exact ⟨N, Nat.le_refl _, rfl, H0.out⟩
  case round =>
   obtain ⟨k, hk, rfl, heq⟩ := hrel
   by_cases hk0 : k = 0
   ·subst hk0
    have hf := HFIN.out heq
    rw [show (((0 : Nat) : Int) - 1) = -1 from rfl]
    have HF := yH hf
    clear hf heq
    go_wp2_with fail
    go_ret
    exact ⟨by rw [HF.out]; rfl, rfl⟩
   ·obtain ⟨i, rfl⟩ : ∃ i, k = i + 1 := ⟨k - 1, by omega⟩
    have hii : (((i + 1 : Nat) : Int) - 1) = (i : Int) := by omega
    rw [hii]
    have b0 : (0 : Int) ≤ (i : Int) := by omega
    have b1 : (i : Int) < 2000 := by omega
    have hs := HCS.out i heq
    have hl := HCL.out i heq
    have ha := HPA.out i (by omega)
    have hb := HPB.out i (by omega)
    have lx := byt_lt A i
    have ly := byt_lt C i
    generalize byt A i = x at *
    generalize byt C i = y at *
    by_cases hxy : x = y
    ·subst hxy
     have HS := yH (hs rfl)
     have HA := yH ha
     have HB := yH hb
     clear hs hl ha hb heq hii
     go_wp2_with fail
     refine HA.out.mono ?_
     rintro e w' ⟨rfl, rfl⟩
     go_wp2_with fail
     refine HB.out.mono ?_
     rintro e w' ⟨rfl, rfl⟩
     go_wp2_with fail
     go_round
     case rel => exact ⟨i, by omega, rfl, HS.out⟩
     case measure => simp [intOf] <;> omega
    ·have hne : ((x : Int) != (y : Int)) = true := by rw [bne_iff_ne]; omega
     have hlt := hl hxy
     have hli : decide ((x : Int) < (y : Int)) = decide (A < C) := by rw [← hlt]; congr 1; exact propext (by omega)
     have HLI := yH hli
     have HLN := yH hlt
     have HA := yH ha
     have HB := yH hb
     clear hs hl ha hb heq hii hlt hli hxy
     go_wp2_with fail
     refine HA.out.mono ?_
     rintro e w' ⟨rfl, rfl⟩
     go_wp2_with fail
     refine HB.out.mono ?_
     rintro e w' ⟨rfl, rfl⟩
     go_wp2_with fail
     refine HA.out.mono ?_
     rintro e w' ⟨rfl, rfl⟩
     go_wp2_with fail
     refine HB.out.mono ?_
     rintro e w' ⟨rfl, rfl⟩
     go_wp2_with fail
     go_ret
     exact ⟨by first | (rw [← HLN.out]; rfl) | (rw [← HLI.out]; rfl), rfl⟩
 ·have hgi : ¬ (n : Int) < (m : Int) + (up : Int) := by omega
  have hgj : (m : Int) + (up : Int) ≤ (n : Int) := by omega
  have hnn : (n : Int) - 1 = (N : Int) - 1 := by have := HNN.out; omega
  have HNI := yH hnn
  clear hnn
  go_wp2_with fail
  rw [HNI.out]
  go_loop [8] (fun i => ∃ k : Nat, k ≤ N ∧ i = .int .i64 ((k : Int) - 1) ∧ A / 256 ^ k = C / 256 ^ k) (fun i => (intOf i + 1).toNat)
  case atStart => exact ⟨N, Nat.le_refl _, rfl, H0.out⟩
  case round =>
   obtain ⟨k, hk, rfl, heq⟩ := hrel
   by_cases hk0 : k = 0
   ·subst hk0
    have hf := HFIN.out heq
    rw [show (((0 : Nat) : Int) - 1) = -1 from rfl]
    have HF := yH hf
    clear hf heq
    go_wp2_with fail
    go_ret
    exact ⟨by rw [HF.out]; rfl, rfl⟩
   ·obtain ⟨i, rfl⟩ : ∃ i, k = i + 1 := ⟨k - 1, by omega⟩
    have hii : (((i + 1 : Nat) : Int) - 1) = (i : Int) := by omega
    rw [hii]
    have b0 : (0 : Int) ≤ (i : Int) := by omega
    have b1 : (i : Int) < 2000 := by omega
    have hs := HCS.out i heq
    have hl := HCL.out i heq
    have ha := HPA.out i (by omega)
    have hb := HPB.out i (by omega)
    have lx := byt_lt A i
    have ly := byt_lt C i
    generalize byt A i = x at *
    generalize byt C i = y at *
    by_cases hxy : x = y
    ·subst hxy
     have HS := yH (hs rfl)
     have HA := yH ha
     have HB := yH hb
     clear hs hl ha hb heq hii
     go_wp2_with fail
     refine HA.out.mono ?_
     rintro e w' ⟨rfl, rfl⟩
     go_wp2_with fail
     refine HB.out.mono ?_
     rintro e w' ⟨rfl, rfl⟩
     go_wp2_with fail
     go_round
     case rel => exact ⟨i, by omega, rfl, HS.out⟩
     case measure => simp [intOf] <;> omega
    ·have hne : ((x : Int) != (y : Int)) = true := by rw [bne_iff_ne]; omega
     have hlt := hl hxy
     have hli : decide ((x : Int) < (y : Int)) = decide (A < C) := by rw [← hlt]; congr 1; exact propext (by omega)
     have HLI := yH hli
     have HLN := yH hlt
     have HA := yH ha
     have HB := yH hb
     clear hs hl ha hb heq hii hlt hli hxy
     go_wp2_with fail
     refine HA.out.mono ?_
     rintro e w' ⟨rfl, rfl⟩
     go_wp2_with fail
     refine HB.out.mono ?_
     rintro e w' ⟨rfl, rfl⟩
     go_wp2_with fail
     refine HA.out.mono ?_
     rintro e w' ⟨rfl, rfl⟩
     go_wp2_with fail
     refine HB.out.mono ?_
     rintro e w' ⟨rfl, rfl⟩
     go_wp2_with fail
     go_ret
     exact ⟨by first | (rw [← HLN.out]; rfl) | (rw [← HLI.out]; rfl), rfl⟩
theorem rest_sub {C t n : Nat} (hC : C < 256 ^ n) (h : ¬ C < qq * 256 ^ t) : ∃ D, D + qq * 256 ^ t = C ∧ D < C ∧ D < 256 ^ n ∧ D % qq = C % qq := by
 have hp : 0 < qq * 256 ^ t := Nat.mul_pos qq_pos (p256 t)
 refine ⟨C - qq * 256 ^ t, by omega, by omega, by omega, ?_⟩
 conv => rhs; rw [show C = C - qq * 256 ^ t + qq * 256 ^ t by omega]
 rw [Nat.add_mul_mod_self_left]
set_option maxHeartbeats 6400000 in
theorem rest_doc (A n : Nat) (hA : A < 256 ^ n) (h1 : 1 ≤ n) (hn : n ≤ 1000) (a : Option Addr) (cap : Nat) (F : Nat → Prop) (w : World) (hr : Rd w F a n (Tabs .i64 (byt A) n)) :
  Calls Tryz.prog 106 #[.slice a n cap] w fun e w' => ∃ v, e = .returned v ∧ w'.ownsRow w.heap.size 3 1 v n (Tabs .i64 (byt (A % qq)) n) ∧ Below w.heap.size w w' := by
 obtain ⟨i0, hi, hz0, hz1, hz2⟩ := info_parts int_inf
 have hst : A < qq * 256 ^ (n + 1) := by
  refine Nat.lt_of_lt_of_le hA (Nat.le_trans (Nat.pow_le_pow_right (by decide) (Nat.le_succ n)) ?_)
  exact Nat.le_mul_of_pos_left _ qq_pos
 have hr0 := hr.belowAll ((Below.refl w.heap.size w).alloc (Nat.le_refl _) (.cells #[] 3))
 have q1 : 0 + n ≤ maxLen := by unfold maxLen; omega
 have q2 : (0 + n) * 8 ≤ 140737488355328 := by omega
 have HR := yH hr0
 have HI := yH hi
 have HZ0 := yH hz0
 have HZ1 := yH hz1
 have HZ2 := yH hz2
 have HA := yH hA
 have HST := yH hst
 have HQ1 := yH q1
 have HQ2 := yH q2
 clear hr hr0 hi hz0 hz1 hz2 hA hst q1 q2
 go_enter Tryz.func106, Tryz.ntmps106
 go_wp2_with (at_builtin; refine wpList_append_rd _ rfl (.tmp 8) (.tmp 9) 117 rfl w.heap.size 3 i0 (.int .i64 0) 8 Tryz.underlying117 HI.out HZ0.out HZ1.out HZ2.out rfl (.slice (some ⟨w.heap.size, 0, none⟩) 0 0) 0 [] rfl (World.ownsRow_made w #[] 0 (Nat.le_refl _) (by unfold maxLen; omega) rfl) F a n cap (Tabs .i64 (byt A) n) rfl HR.out (Tabs_ones _ _ _) HQ1.out HQ2.out (by simp) ?_; intro v2 w2 hown2 hgrow hat; rw [Nat.zero_add, List.nil_append] at hown2; obtain ⟨g, c2, rfl, hg1, hg2⟩ := hown2.form (by omega); have HOWN2 := yH hown2; have HG2 := yH hgrow; clear hown2 hgrow hat)
 have hb2 := ((Below.refl w.heap.size w).alloc (Nat.le_refl _) (.cells #[] 3)).grown HG2.out (by simp) (fun q hq => by cases hq; exact Nat.le_refl _)
 have HB2 := yH hb2
 clear hb2
 go_loopw [4] (fun i wr => ∃ u C : Nat, u ≤ n + 1 ∧ i = .int .i64 ((u : Int) - 1) ∧ C < 256 ^ n ∧ C % qq = A % qq ∧ C < qq * 256 ^ u ∧ wr.ownsRow w.heap.size 3 1 (.slice (some ⟨g, 0, none⟩) n c2) n (Tabs .i64 (byt C) n) ∧ Below w.heap.size w wr) (fun i _ => (intOf i + 1).toNat)
 case atStart => exact ⟨n + 1, A, Nat.le_refl _, by congr 1; omega, HA.out, rfl, HST.out, HOWN2.out, HB2.out⟩
 case round =>
  obtain ⟨u, C, hu, rfl, hCn, hCq, hCu, hown, hbe⟩ := hrel
  by_cases hu0 : u = 0
  ·subst hu0
   rw [show (((0 : Nat) : Int) - 1) = -1 from rfl]
   have hCA : C = A % qq := by
    rw [Nat.pow_zero, Nat.mul_one] at hCu
    rw [← hCq, Nat.mod_eq_of_lt hCu]
   have HCA := yH hCA
   have HOWN := yH hown
   have HBE := yH hbe
   clear hCn hCq hCu hown hbe hCA
   go_wp2_with fail
   go_ret
   exact ⟨_, rfl, by rw [← HCA.out]; exact HOWN.out, HBE.out⟩
  ·obtain ⟨t, rfl⟩ : ∃ t, u = t + 1 := ⟨u - 1, by omega⟩
   have hii : (((t + 1 : Nat) : Int) - 1) = (t : Int) := by omega
   rw [hii]
   have bt0 : (0 : Int) ≤ (t : Int) := by omega
   have bt1 : (t : Int) ≤ 1000 := by omega
   have HCN := yH hCn
   have HCQ := yH hCq
   have HOWN := yH hown
   have HBE := yH hbe
   clear hCn hCq hCu hown hbe hii
   go_wp2_with fail
   obtain ⟨wo, rfl⟩ : ∃ wo, wo = wr := ⟨_, rfl⟩
   go_loopg [] C (fun gk wr => ∃ E : Nat, E = gk ∧ E < 256 ^ n ∧ E % qq = A % qq ∧ wr.ownsRow w.heap.size 3 1 (.slice (some ⟨g, 0, none⟩) n c2) n (Tabs .i64 (byt E) n) ∧ Below w.heap.size w wr)
   case atStart => exact ⟨C, rfl, HCN.out, HCQ.out, HOWN.out, HBE.out⟩
   case round =>
    obtain ⟨E, rfl, hEn, hEq, hown, hbe⟩ := hrel
    have HEN := yH hEn
    have HEQ := yH hEq
    have HOWNE := yH hown
    have HBEE := yH hbe
    clear hEn hEq hown hbe
    go_wp2_with fail
    refine (Q_any wr).mono ?_
    rintro e w3 ⟨g3, rfl, hq3, hb3⟩
    have hown3 := own_below HOWNE.out hb3
    have hbe3 := HBEE.out.trans (hb3.mono HBEE.out.size)
    have hless := less_any E n qq 32 t HEN.out q_256 hn (by omega) (by omega) (some ⟨g, 0, none⟩) (some ⟨g3, 0, none⟩) c2 32 _ _ w3 (Rd.of_own hown3) (hq3.rd (Tabs_length _ _ _))
    have HL := yH hless
    have HOWN3 := yH hown3
    have HBE3 := yH hbe3
    clear hq3 hb3 hown3 hbe3 hless
    go_wp2_with fail
    refine HL.out.mono ?_
    rintro e w' ⟨rfl, rfl⟩
    by_cases hlt : E < qq * 256 ^ t
    ·rw [decide_eq_true hlt]
     have HLT := yH hlt
     clear hlt
     go_wp2_with fail
     go_roundw
     case rel => exact ⟨t, E, by omega, rfl, HEN.out, HEQ.out, HLT.out, HOWN3.out, HBE3.out⟩
     case measure => simp [intOf] <;> omega
    ·obtain ⟨D, hD, hDE, hDn, hDq⟩ := rest_sub HEN.out hlt
     rw [decide_eq_false hlt]
     have hdif := dif_byt hD
     have HDIF := yH hdif
     have HD := yH hD
     have HDN := yH hDn
     have HDQ := yH hDq
     clear hlt hD hDn hDq hdif
     generalize hB : qq * 256 ^ t = B at *
     have HB := yH hB
     clear hB
     go_wp2_with fail
     obtain ⟨wp, rfl⟩ : ∃ wp, wp = w' := ⟨_, rfl⟩
     go_loopw [5, 6] (fun un i wr => ∃ k : Nat, k ≤ n ∧ i = .int .i64 k ∧ un = .int .i64 ((brb E B k : Nat) : Int) ∧ wr.ownsRow w.heap.size 3 1 (.slice (some ⟨g, 0, none⟩) n c2) n (Tabs .i64 (mixb D E k) n) ∧ Below w.heap.size w wr) (fun _ i _ => n - (intOf i).toNat)
     case atStart => exact ⟨0, Nat.zero_le _, rfl, by rw [brb_zero]; rfl, by rw [mixb_zero]; exact HOWN3.out, HBE3.out⟩
     case round =>
      obtain ⟨k, hkn, rfl, rfl, hown, hbe⟩ := hrel
      by_cases hk : k < n
      ·have hcell := hown.cellAt k (by omega)
       rw [Tabs_get .i64 (mixb D E k) n hk, show mixb D E k k = byt E k by unfold mixb; rw [if_neg (Nat.lt_irrefl k)]] at hcell
       have hmix := mixb_set D E n hk
       have hd := HDIF.out k
       have hcl := brb_le E B k
       have hcl2 := brb_le E B (k + 1)
       have lx := byt_lt E k
       have lz := byt_lt D k
       have hBk : byt (qq * 256 ^ t) k = byt B k := by rw [HB.out]
       have ly := byt_lt B k
       generalize byt E k = x at *
       generalize byt B k = y at *
       generalize byt D k = z at *
       generalize brb E B k = c at *
       generalize hc' : brb E B (k + 1) = c' at *
       have HC' := yH hc'
       clear hc'
       have w1 : IntKind.i64.wrap ((k : Int) - (t : Int)) = (k : Int) - (t : Int) := IntWalk.i64_in _ (by omega)
       have w2 : IntKind.i64.wrap ((x : Int) - (y : Int)) = (x : Int) - (y : Int) := IntWalk.i64_in _ (by omega)
       have w3 : IntKind.i64.wrap ((x : Int) - (y : Int) - (c : Int)) = (x : Int) - (y : Int) - (c : Int) := IntWalk.i64_in _ (by omega)
       have HCELL := yH hcell
       have HMIX := yH hmix
       have HBK := yH hBk
       have HOWNK := yH hown
       have HBEK := yH hbe
       have HDD := yH hd
       have hgl : g < wr.heap.size := lt_of_cell (a := ⟨g, k, none⟩) hcell
       have HGL := yH hgl
       have bk0 : (0 : Int) ≤ (k : Int) := by omega
       have bk1 : (k : Int) < (n : Int) := by omega
       clear hcell hmix hBk hown hbe hd hgl
       go_upto_region 10 with fail
       refine wp_region_any (by kernel_rfl) ?_
       change wpAny _ _ _ _ _ _ _ (World.drew _)
       refine wpAny_of_held (S := (fun w' : World => Below wr.heap.size wr w')) _ _ _ _ ?_
       have hHeld := ((Below.refl wr.heap.size wr).drew)
       have hl : Ls [(0, 28), (1, 29), (5, 33), (6, 34), (10, 38), (2, 30), (7, 35)] := trivial
       repeat
        refine tkl hl (v := ?_) rfl rfl (by kernel_rfl) (fun _ _ _ h => h) (by rfl) ?_ hHeld ?_
        rotate_left
        ·(intro w' hSw; go_simp; try (with_reducible rfl))
        simp only [Act.put, yA, yB, yC]
        replace hl := hl.tl
       clear hl
       refine tk 3 31 (v := ?_) rfl rfl (by kernel_rfl) (fun _ _ _ h => h) (by rfl) ?_ hHeld ?_
       rotate_left
       ·(intro w' hSw; have c0 := (hSw.cell (p := ⟨g, k, none⟩) HGL.out).trans HCELL.out; go_simp; try (with_reducible rfl))
       simp only [Act.put, yA, yB, yC]
       refine wpAnyH_ready (rs := [4]) (by kernel_rfl) (by simp) ?_
       refine AllReadyH.cons rfl (fun K hK => ?_) AllReadyH.nil
       rw [if_pos (by kernel_rfl)]
       go_simp
       refine (Q_any _).mono ?_
       rintro e w5 ⟨g5, rfl, hq5, hb5⟩
       refine hK.out _ _ (hHeld.trans (hb5.mono hHeld.size)) (fun hHeld => ?_)
       clear hK K
       refine wpAnyH_ready (rs := [8]) (by kernel_rfl) (by simp) ?_
       refine AllReadyH.cons rfl (fun K hK => ?_) AllReadyH.nil
       rw [if_pos (by kernel_rfl)]
       go_simp
       refine (at_up qq 32 t q_256 (some ⟨g5, 0, none⟩) 32 _ k w5 (by omega) (by omega) (hq5.rd (Tabs_length _ _ _))).mono ?_
       rintro e w6 ⟨rfl, rfl⟩
       rw [HBK.out]
       refine hK.out _ _ hHeld (fun hHeld => ?_)
       clear hK K
       have hl : Ls [(9, 37), (11, 39), (12, 7)] := trivial
       repeat
        refine tkl hl (v := ?_) rfl rfl (by kernel_rfl) (fun _ _ _ h => h) (by rfl) ?_ hHeld ?_
        rotate_left
        ·(intro w' hSw; go_simp; try (with_reducible rfl))
        simp only [Act.put, yA, yB, yC]
        replace hl := hl.tl
       clear hl
       refine wpAnyH_done (by kernel_rfl) ?_ _
       have hown6 := own_below HOWNK.out hHeld
       have hbe6 := HBEK.out.trans (hHeld.mono HBEK.out.size)
       have hc6 := (hHeld.cell (p := ⟨g, k, none⟩) HGL.out).trans HCELL.out
       have hf6 := hown6.frozenAt k
       have hst6 := (hown6.stored k (.int .i64 (z : Int))).1
       rw [HMIX.out] at hst6
       have hgb : w.heap.size ≤ g := (HOWNK.out.lt g rfl).1
       have hbs6 := hbe6.setCell (p := ⟨g, k, none⟩) hgb (.int .i64 (z : Int))
       have HST6 := yH hst6
       have HBS6 := yH hbs6
       have hd := HDD.out
       clear hown6 hbe6 hst6 hgb hbs6 hHeld hq5 hb5 w1 w2 w3
       by_cases hneg : c' = 0
       ·have hdd : (x : Int) - (y : Int) - (c : Int) = (z : Int) := by omega
        rw [hdd]
        clear hd hdd
        go_wp2_with fail
        go_roundw
        case rel => exact ⟨k + 1, by omega, by go_num, by rw [HC'.out, hneg]; rfl, HST6.out, HBS6.out⟩
        case measure => simp [intOf] <;> omega
       ·have hdd : (x : Int) - (y : Int) - (c : Int) = (z : Int) - 256 := by omega
        have hc1 : c' = 1 := by omega
        rw [hdd]
        have hng : (z : Int) - 256 < 0 := by omega
        have hzz : IntKind.i64.wrap ((z : Int) - 256 + 256) = (z : Int) := by rw [IntWalk.i64_in _ (by omega)]; omega
        have HC1 := yH hc1
        clear hd hdd hneg hc1
        go_wp2_with fail
        go_roundw
        case rel => exact ⟨k + 1, by omega, by go_num, by rw [HC'.out, HC1.out]; rfl, HST6.out, HBS6.out⟩
        case measure => simp [intOf] <;> omega
      ·obtain rfl : k = n := by omega
       rw [mixb_all] at hown
       have HOWNK := yH hown
       have HBEK := yH hbe
       clear hown hbe
       go_wp2_with fail
       go_roundg D
       case measure => exact hDE
       case rel => exact ⟨D, rfl, HDN.out, by rw [HDQ.out]; exact HEQ.out, HOWNK.out, HBEK.out⟩
theorem pow_le256 {a b : Nat} (h : a ≤ b) : 256 ^ a ≤ 256 ^ b := Nat.pow_le_pow_right (by decide) h
theorem r_lt64 (x : Nat) : x % qq < 256 ^ 64 := Nat.lt_of_lt_of_le (r_lt x) (pow_le256 (by omega))
set_option maxHeartbeats 1600000 in
theorem reduce_doc (A : Nat) (hA : A < 256 ^ 64) (w : World) :
  Calls Tryz.prog 84 #[.agg (By A 64).toArray] w fun e w' => e = .returned (.agg (By (A % qq) 32).toArray) ∧ Below w.heap.size w w' := by
 have ha := (Row.new w (By A 64) 30).alloc (.cells (List.replicate 32 (Value.int .u8 0)).toArray 22)
 have hr := Row.new1 w (.cells (By A 64).toArray 30) (List.replicate 32 (Value.int .u8 0)) 22
 have hb0 := Below.alloc2 w (.cells (By A 64).toArray 30) (.cells (List.replicate 32 (Value.int .u8 0)).toArray 22)
 have hsz : ((w.alloc (.cells (By A 64).toArray 30)).alloc (.cells (List.replicate 32 (Value.int .u8 0)).toArray 22)).heap.size = w.heap.size + 1 + 1 := by simp
 have hS8 : ∀ x, (Tryz.prog.info? 22).map (·.size) = some (By x 32).toArray.size := by_info
 have hO8 : ∀ x, (List.replicate 32 (Value.int .u8 0)).toArray.size = (By x 32).toArray.size := fun x => by rw [List.size_toArray, List.size_toArray, By_length, List.length_replicate]
 have HA := yH ha
 have HR := yH hr
 have HB0 := yH hb0
 have HSZ := yH hsz
 have HA0 := yH hA
 have HS8 := yH hS8
 have HO8 := yH hO8
 clear ha hr hb0 hsz hA hS8 hO8
 go_enter Tryz.func84, Tryz.ntmps84
 go_wp2_with fail
 refine (digits_any A 64 (by decide) (some ⟨w.heap.size, 0, none⟩) 64 _ _ (HA.out.rd (By_length A 64))).mono ?_
 rintro e w4 ⟨v, rfl, hown4, hb4⟩
 obtain ⟨g4, c4, rfl, _, _⟩ := hown4.form (by decide)
 have hr4 := HR.out.belowAll hb4
 have hbe4 := HB0.out.trans (hb4.mono (by rw [HSZ.out]; omega))
 have HOWN4 := yH hown4
 have HR4 := yH hr4
 have HBE4 := yH hbe4
 clear hb4 hr4 hbe4 hown4
 go_wp2_with fail
 refine (rest_doc A 64 HA0.out (by decide) (by decide) (some ⟨g4, 0, none⟩) c4 _ _ (Rd.of_own HOWN4.out)).mono ?_
 rintro e w5 ⟨v, rfl, hown5, hb5⟩
 obtain ⟨g5, c5, rfl, _, _⟩ := hown5.form (by decide)
 have hr5 := HR4.out.belowAll hb5
 have hbe5 := HBE4.out.trans (hb5.mono HBE4.out.size)
 have HOWN5 := yH hown5
 have HR5 := yH hr5
 have HBE5 := yH hbe5
 clear hb5 hr5 hbe5 hown5
 go_wp2_with fail
 refine (rbytes_any (A % qq) 64 (r_lt64 A) (by decide) (some ⟨g5, 0, none⟩) c5 _ _ (Rd.of_own HOWN5.out)).mono ?_
 rintro e w6 ⟨rfl, hb6⟩
 have hr6 := HR5.out.belowAll hb6
 have hbe6 := HBE5.out.trans (hb6.mono HBE5.out.size)
 have HR6 := yH hr6
 have HBE6 := yH hbe6
 clear hb6 hr6 hbe6
 go_wp2_with (refine wpList_store_row rfl 22 (.tmp 2) (.tmp 6) rfl (w.heap.size + 1) _ rfl rfl 22 _ HR6.out (HS8.out _) (HO8.out _) (By_one _ _) ?_)
 have hgot := setRow_heap w6 (w.heap.size + 1) _ (By (A % qq) 32).toArray _ _ HR6.out
 refine bodyPost_ret (results_cell_row (by rfl) _ _ (w.heap.size + 1) _ _ _ _ (by rfl) hgot Tryz.underlying22 rfl (HS8.out _)) rfl ?_
 exact ⟨rfl, below_setRow HBE6.out (by omega) _⟩
set_option maxHeartbeats 1600000 in
theorem below_doc (N : Nat) (hN : N < 256 ^ 32) (w : World) :
  Calls Tryz.prog 45 #[.agg (By N 32).toArray] w fun e w' => e = .returned (.bool (decide (N < qq))) ∧ Below w.heap.size w w' := by
 have ha := Row.new w (By N 32) 22
 have hb0 := (Below.refl w.heap.size w).alloc (Nat.le_refl _) (.cells (By N 32).toArray 22)
 have HA := yH ha
 have HB0 := yH hb0
 have HN := yH hN
 clear ha hb0 hN
 go_enter Tryz.func45, Tryz.ntmps45
 go_wp2_with fail
 refine (digits_any N 32 (by decide) (some ⟨w.heap.size, 0, none⟩) 32 _ _ (HA.out.rd (By_length N 32))).mono ?_
 rintro e w4 ⟨v, rfl, hown4, hb4⟩
 obtain ⟨g4, c4, rfl, _, _⟩ := hown4.form (by decide)
 have hbe4 := HB0.out.trans (hb4.mono HB0.out.size)
 have HOWN4 := yH hown4
 have HBE4 := yH hbe4
 clear hb4 hbe4 hown4
 go_wp2_with fail
 refine (Q_any w4).mono ?_
 rintro e w5 ⟨g5, rfl, hq5, hb5⟩
 have hless := less_any N 32 qq 32 0 HN.out q_256 (by decide) (by decide) (by decide) (some ⟨g4, 0, none⟩) (some ⟨g5, 0, none⟩) c4 32 _ _ w5 (Rd.of_own (own_below HOWN4.out hb5)) (hq5.rd (Tabs_length _ _ _))
 rw [Nat.pow_zero, Nat.mul_one] at hless
 have hbe5 := HBE4.out.trans (hb5.mono HBE4.out.size)
 have HL := yH hless
 have HBE5 := yH hbe5
 clear hq5 hb5 hless hbe5
 go_wp2_with fail
 refine HL.out.mono ?_
 rintro e w6 ⟨rfl, rfl⟩
 go_wp2_with fail
 go_ret
 exact ⟨rfl, HBE5.out⟩
end Go.Proofs.YtnpjecdodhkplaaGreatDoor
