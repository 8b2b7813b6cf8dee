import Derived.Test.YtnpjecdodhkplaaGreatDoorTO
namespace Go.Proofs.YtnpjecdodhkplaaGreatDoor
set_option maxRecDepth 100000
set_option linter.unusedSimpArgs false
open Go.RowKit
open List renaming setIfInBounds_toArray → yA, set_cons_zero → yB, set_cons_succ → yC
open Lib renaming hid → yH
theorem cyb_big {A B n k : Nat} (hA : A < 256 ^ n) (hB : B < 256 ^ n) (hk : n ≤ k) (h : cyb A B k = 0) : A + B < 256 ^ k := by
 unfold cyb at h
 rw [Nat.mod_eq_of_lt (Nat.lt_of_lt_of_le hA (pow_le256 hk)), Nat.mod_eq_of_lt (Nat.lt_of_lt_of_le hB (pow_le256 hk))] at h
 exact (Nat.div_eq_zero_iff_lt (p256 k)).1 h
theorem cyb_next {A B n : Nat} (hA : A < 256 ^ n) (hB : B < 256 ^ n) : cyb A B (n + 1) = 0 := by
 unfold cyb
 rw [Nat.mod_eq_of_lt (Nat.lt_of_lt_of_le hA (pow_le256 (by omega))), Nat.mod_eq_of_lt (Nat.lt_of_lt_of_le hB (pow_le256 (by omega)))]
 rw [Nat.div_eq_zero_iff_lt (p256 _), Nat.pow_succ]
 omega
set_option maxHeartbeats 3200000 in
theorem add_doc (A n B m : Nat) (hA : A < 256 ^ n) (hB : B < 256 ^ m) (hn : n ≤ 500) (hm : m ≤ 500) (a b : Option Addr) (ca cb : Nat) (F G : Nat → Prop) (w : World) (hra : Rd w F a n (Tabs .i64 (byt A) n)) (hrb : Rd w G b m (Tabs .i64 (byt B) m)) :
  Calls Tryz.prog 107 #[.slice a n ca, .slice b m cb] w fun e w' => ∃ v L, e = .returned v ∧ n ≤ L ∧ L ≤ 501 ∧ A + B < 256 ^ L ∧ w'.ownsRow w.heap.size 3 1 v L (Tabs .i64 (byt (A + B)) L) ∧ Below w.heap.size w w' := by
 obtain ⟨i0, hi, hz0, hz1, hz2⟩ := info_parts int_inf
 obtain ⟨N, hN⟩ : ∃ N, N = max n m := ⟨_, rfl⟩
 have hN1 : n ≤ N := by omega
 have hN2 : m ≤ N := by omega
 have hN3 : N ≤ 500 := by omega
 have hAN : A < 256 ^ N := Nat.lt_of_lt_of_le hA (pow_le256 hN1)
 have hBN : B < 256 ^ N := Nat.lt_of_lt_of_le hB (pow_le256 hN2)
 have hNN : N = n ∨ N = m := by omega
 have HRA := yH hra
 have HRB := yH hrb
 have HA := yH hA
 have HB := yH hB
 have HAN := yH hAN
 have HBN := yH hBN
 have HNN := yH hNN
 have HI := yH hi
 have HZ0 := yH hz0
 have HZ1 := yH hz1
 have HZ2 := yH hz2
 clear hra hrb hA hB hAN hBN hN hi hz0 hz1 hz2 hNN
 go_enter Tryz.func107, Tryz.ntmps107
 go_wp2_with fail
 go_loopw [5, 6, 7] (fun v o i wr => ∃ k : Nat, k ≤ N + 1 ∧ i = .int .i64 k ∧ o = .int .i64 ((cyb A B k : Nat) : Int) ∧ wr.ownsRow w.heap.size 3 1 v k (Tabs .i64 (byt (A + B)) k) ∧ Below w.heap.size w wr) (fun _ _ i _ => N + 1 - (intOf i).toNat)
 case atStart => exact ⟨0, Nat.zero_le _, rfl, by rw [cyb_zero]; rfl, World.ownsRow_nil _ _ _ _, Below.refl _ _⟩
 case round =>
  obtain ⟨k, hkn, rfl, rfl, hown, hbe⟩ := hrel
  obtain ⟨A1, c1, rfl⟩ := own_slice hown
  have hcl := cyb_le A B k
  by_cases hgo : k < N ∨ (k = N ∧ 0 < cyb A B k)
  ·have hkN : k < N + 1 := by omega
   have hsum := sum_byt A B k
   have hsn := Tabs_snoc .i64 (byt (A + B)) k
   have ha := at_pos A n HA.out a ca F k wr (by omega) (by omega) (HRA.out.belowAll hbe)
   have hb := at_pos B m HB.out b cb G k wr (by omega) (by omega) (HRB.out.belowAll hbe)
   have lx := byt_lt A k
   have ly := byt_lt B k
   have lz := byt_lt (A + B) k
   have hcl2 := cyb_le A B (k + 1)
   generalize byt A k = x at *
   generalize byt B k = y at *
   generalize byt (A + B) k = z at *
   generalize cyb A B k = c at *
   generalize hc' : cyb A B (k + 1) = c' at *
   have HC' := yH hc'
   clear hc'
   have hz1 : ((x : Int) + (y : Int) + (c : Int)) % 256 = (z : Int) := by omega
   have hz2 : ((x : Int) + (y : Int) + (c : Int)) / 256 = (c' : Int) := by omega
   have hrd := Rd.lit wr [Value.int .i64 (z : Int)] #[Value.int .i64 (z : Int)] 3 rfl 1 rfl
   have hown1 := hown.alloc (.cells #[Value.int .i64 (z : Int)] 3)
   have hbe1 := hbe.alloc hbe.size (.cells #[Value.int .i64 (z : Int)] 3)
   have q1 : k + 1 ≤ maxLen := by unfold maxLen; omega
   have q2 : (k + 1) * 8 ≤ 140737488355328 := by omega
   have q3 : w.heap.size ≤ (wr.alloc (.cells #[Value.int .i64 (z : Int)] 3)).heap.size := by have := hbe.size; simp; omega
   have HX := yH ha
   have HY := yH hb
   have HZM := yH hz1
   have HZD := yH hz2
   have HOWN := yH hown1
   have HBE := yH hbe1
   have HRD := yH hrd
   have HSN := yH hsn
   have HQ1 := yH q1
   have HQ2 := yH q2
   have HQ3 := yH q3
   clear hown hbe hsum hsn ha hb hrd hown1 hbe1 q1 q2 q3 hz1 hz2
   by_cases h1 : k < n
   ·clear hgo
    go_wp2_with fail
    refine HX.out.mono ?_
    rintro e w' ⟨rfl, rfl⟩
    go_wp2_with fail
    refine HY.out.mono ?_
    rintro e w' ⟨rfl, rfl⟩
    have hzm := HZM.out
    go_wp2_with (at_builtin; refine wpList_append_rd _ rfl (.tmp 34) (.tmp 37) 117 rfl w.heap.size 3 i0 (.int .i64 0) 8 Tryz.underlying117 HI.out HZ0.out HZ1.out HZ2.out rfl (.slice A1 k c1) k (Tabs .i64 (byt (A + B)) k) rfl HOWN.out _ (some ⟨w'.heap.size, 0, none⟩) 1 1 [Value.int .i64 (z : Int)] rfl HRD.out (by intro u hu; rw [List.mem_singleton.1 hu]; rfl) HQ1.out HQ2.out HQ3.out ?_; intro v2 w2 hown2 hgrow hat; have HO2 := yH hown2; have hb2 := HBE.out.grown hgrow HQ3.out (fun q hq => (HOWN.out.lt q hq).1); have HB2 := yH hb2; clear hown2 hgrow hat hb2)
    go_roundw
    case rel => exact ⟨k + 1, by omega, by go_num, by rw [HC'.out, HZD.out], by rw [HSN.out]; exact HO2.out, HB2.out⟩
    case measure => simp [intOf] <;> omega
   ·by_cases h2 : k < m
    ·clear hgo
     have h1i : (n : Int) ≤ (k : Int) := by omega
     go_wp2_with fail
     refine HX.out.mono ?_
     rintro e w' ⟨rfl, rfl⟩
     go_wp2_with fail
     refine HY.out.mono ?_
     rintro e w' ⟨rfl, rfl⟩
     have hzm := HZM.out
     go_wp2_with (at_builtin; refine wpList_append_rd _ rfl (.tmp 34) (.tmp 37) 117 rfl w.heap.size 3 i0 (.int .i64 0) 8 Tryz.underlying117 HI.out HZ0.out HZ1.out HZ2.out rfl (.slice A1 k c1) k (Tabs .i64 (byt (A + B)) k) rfl HOWN.out _ (some ⟨w'.heap.size, 0, none⟩) 1 1 [Value.int .i64 (z : Int)] rfl HRD.out (by intro u hu; rw [List.mem_singleton.1 hu]; rfl) HQ1.out HQ2.out HQ3.out ?_; intro v2 w2 hown2 hgrow hat; have HO2 := yH hown2; have hb2 := HBE.out.grown hgrow HQ3.out (fun q hq => (HOWN.out.lt q hq).1); have HB2 := yH hb2; clear hown2 hgrow hat hb2)
     go_roundw
     case rel => exact ⟨k + 1, by omega, by go_num, by rw [HC'.out, HZD.out], by rw [HSN.out]; exact HO2.out, HB2.out⟩
     case measure => simp [intOf] <;> omega
    ·have hc0 : 0 < c := by
      rcases hgo with h | h
      ·have := HNN.out; omega
      ·exact h.2
     have hc0i : (0 : Int) < (c : Int) := by omega
     have h1i : (n : Int) ≤ (k : Int) := by omega
     have h2i : (m : Int) ≤ (k : Int) := by omega
     clear hgo
     go_wp2_with fail
     refine HX.out.mono ?_
     rintro e w' ⟨rfl, rfl⟩
     go_wp2_with fail
     refine HY.out.mono ?_
     rintro e w' ⟨rfl, rfl⟩
     have hzm := HZM.out
     go_wp2_with (at_builtin; refine wpList_append_rd _ rfl (.tmp 34) (.tmp 37) 117 rfl w.heap.size 3 i0 (.int .i64 0) 8 Tryz.underlying117 HI.out HZ0.out HZ1.out HZ2.out rfl (.slice A1 k c1) k (Tabs .i64 (byt (A + B)) k) rfl HOWN.out _ (some ⟨w'.heap.size, 0, none⟩) 1 1 [Value.int .i64 (z : Int)] rfl HRD.out (by intro u hu; rw [List.mem_singleton.1 hu]; rfl) HQ1.out HQ2.out HQ3.out ?_; intro v2 w2 hown2 hgrow hat; have HO2 := yH hown2; have hb2 := HBE.out.grown hgrow HQ3.out (fun q hq => (HOWN.out.lt q hq).1); have HB2 := yH hb2; clear hown2 hgrow hat hb2)
     go_roundw
     case rel => exact ⟨k + 1, by omega, by go_num, by rw [HC'.out, HZD.out], by rw [HSN.out]; exact HO2.out, HB2.out⟩
     case measure => simp [intOf] <;> omega
  ·have hkN : N ≤ k := by omega
   have hc0 : cyb A B k = 0 := by
    by_cases e : k = N
    ·omega
    ·obtain rfl : k = N + 1 := by omega
     exact cyb_next HAN.out HBN.out
   have hlt := cyb_big HAN.out HBN.out hkN hc0
   have h1i : (n : Int) ≤ (k : Int) := by omega
   have h2i : (m : Int) ≤ (k : Int) := by omega
   have HLT := yH hlt
   have HOWN := yH hown
   have HBE := yH hbe
   rw [hc0]
   clear hgo hc0 hlt hown hbe hcl
   go_wp2_with fail
   go_ret
   exact ⟨_, k, rfl, by omega, by omega, HLT.out, HOWN.out, HBE.out⟩
theorem lev_set : ∀ (l : List Nat) (p x : Nat), p < l.length → lev (l.set p x) + l.getD p 0 * 256 ^ p = lev l + x * 256 ^ p
 | [], p, x, h => absurd h (by simp)
 | c :: l, 0, x, _ => by
  show (x + 256 * lev l) + c * 256 ^ 0 = (c + 256 * lev l) + x * 256 ^ 0
  rw [Nat.pow_zero]
  omega
 | c :: l, p + 1, x, h => by
  have ih := lev_set l p x (by simpa using h)
  show (c + 256 * lev (l.set p x)) + l.getD p 0 * 256 ^ (p + 1) = (c + 256 * lev l) + x * 256 ^ (p + 1)
  rw [Nat.pow_succ, ← Nat.mul_assoc, ← Nat.mul_assoc]
  omega
theorem put_digit {V L p x : Nat} (hV : V < 256 ^ L) (hp : p < L) (hx : x < 256) :
  ∃ V', V' < 256 ^ L ∧ V' + byt V p * 256 ^ p = V + x * 256 ^ p ∧ (Tabs .i64 (byt V) L).set p (.int .i64 (x : Int)) = Tabs .i64 (byt V') L := by
 have hlen : ((List.range L).map (byt V)).length = L := by simp
 have hlt : ∀ c ∈ ((List.range L).map (byt V)).set p x, c < 256 := by
  intro c hc
  rcases List.mem_or_eq_of_mem_set hc with h | h
  ·obtain ⟨i, _, rfl⟩ := List.mem_map.1 h
   exact byt_lt V i
  ·rw [h]; exact hx
 have hs := lev_set ((List.range L).map (byt V)) p x (by rw [hlen]; exact hp)
 rw [lev_byts, Nat.mod_eq_of_lt hV] at hs
 have hg : ((List.range L).map (byt V)).getD p 0 = byt V p := by simp [List.getD, hp]
 rw [hg] at hs
 refine ⟨lev (((List.range L).map (byt V)).set p x), ?_, hs, ?_⟩
 ·have := lev_lt hlt
  rwa [List.length_set, hlen] at this
 ·refine List.ext_getElem? fun j => ?_
  by_cases hj : j < L
  ·rw [Tabs_get _ _ _ hj, byt_lev _ hlt j (by rw [List.length_set, hlen]; exact hj), List.getElem?_set, Tabs_length, Tabs_get _ _ _ hj]
   by_cases e : p = j
   ·subst e
    simp [List.getD, hp]
   ·rw [if_neg e]
    simp [List.getD, hj, List.getElem?_set, e]
  ·rw [List.getElem?_eq_none (by rw [List.length_set, Tabs_length]; omega), List.getElem?_eq_none (by rw [Tabs_length]; omega)]
theorem mulb_inner {A B V V' k j c s d y : Nat} (hi : V + c * 256 ^ (k + j) = A % 256 ^ k * B + byt A k * (B % 256 ^ j) * 256 ^ k) (hV' : V' + y * 256 ^ (k + j) = V + s * 256 ^ (k + j))
  (hst : s + d * 256 = y + byt A k * byt B j + c) : V' + d * 256 ^ (k + (j + 1)) = A % 256 ^ k * B + byt A k * (B % 256 ^ (j + 1)) * 256 ^ k := by
 have e : 256 ^ (k + (j + 1)) = 256 * 256 ^ (k + j) := by rw [← Nat.add_assoc, Nat.pow_succ, Nat.mul_comm]
 have e2 : 256 ^ (k + j) = 256 ^ j * 256 ^ k := by rw [Nat.pow_add, Nat.mul_comm]
 have h2 := congrArg (· * 256 ^ (k + j)) hst
 simp only [Nat.add_mul] at h2
 have e5 : byt A k * (B % 256 ^ j + 256 ^ j * byt B j) * 256 ^ k = byt A k * (B % 256 ^ j) * 256 ^ k + byt A k * byt B j * 256 ^ (k + j) := by
  rw [e2]
  exact mid_step (byt A k) (B % 256 ^ j) (256 ^ j) (byt B j) (256 ^ k)
 rw [mod_byt, e5, e]
 have e4 : d * (256 * 256 ^ (k + j)) = d * 256 * 256 ^ (k + j) := by rw [Nat.mul_assoc]
 rw [e4]
 generalize byt A k * byt B j * 256 ^ (k + j) = Z at *
 generalize byt A k * (B % 256 ^ j) * 256 ^ k = Y at *
 generalize A % 256 ^ k * B = X at *
 generalize d * 256 * 256 ^ (k + j) = P at *
 generalize s * 256 ^ (k + j) = Q at *
 generalize y * 256 ^ (k + j) = R at *
 generalize c * 256 ^ (k + j) = U at *
 omega
theorem mulb_all {A B k m : Nat} (hB : B < 256 ^ m) {j : Nat} (hj : m ≤ j) : A % 256 ^ k * B + byt A k * (B % 256 ^ j) * 256 ^ k = A % 256 ^ (k + 1) * B := by
 rw [Nat.mod_eq_of_lt (Nat.lt_of_lt_of_le hB (pow_le256 hj)), mod_byt, Nat.add_mul]
 congr 1
 rw [Nat.mul_comm (byt A k * B), Nat.mul_assoc]
theorem mulb_lt {A B k m : Nat} (hB : B < 256 ^ m) : A % 256 ^ k * B < 256 ^ (k + m) := by
 rw [Nat.pow_add]
 have h := Nat.mod_lt A (p256 k)
 calc A % 256 ^ k * B ≤ A % 256 ^ k * 256 ^ m := Nat.mul_le_mul_left _ (Nat.le_of_lt hB)
  _ < 256 ^ k * 256 ^ m := (Nat.mul_lt_mul_right (p256 m)).2 h
theorem mulb_end {A B V k m d : Nat} (hB : B < 256 ^ m) (h : V + d * 256 ^ (k + (m + 1)) = A % 256 ^ k * B + byt A k * (B % 256 ^ (m + 1)) * 256 ^ k) : d = 0 := by
 rw [mulb_all hB (Nat.le_succ m)] at h
 have h1 := mulb_lt (A := A) (k := k + 1) hB
 rw [← h, show k + 1 + m = k + (m + 1) by omega] at h1
 rcases Nat.eq_zero_or_pos d with h0 | h0
 ·exact h0
 ·have := Nat.mul_le_mul_right (256 ^ (k + (m + 1))) h0
  omega
set_option maxHeartbeats 6400000 in
theorem mul_doc (A n B m ga : Nat) (hA : A < 256 ^ n) (hB : B < 256 ^ m) (hn : n ≤ 200) (hm : m ≤ 200) (h0 : 1 ≤ m) (b : Option Addr) (ca cb : Nat) (G : Nat → Prop) (w : World) (hca : ∀ k, k < n → w.cell? ⟨ga, k, none⟩ = some (.int .i64 ((byt A k : Nat) : Int))) (hgal : ga < w.heap.size) (hrb : Rd w G b m (Tabs .i64 (byt B) m)) :
  Calls Tryz.prog 108 #[.slice (some ⟨ga, 0, none⟩) n ca, .slice b m cb] w fun e w' => ∃ v, e = .returned v ∧ A * B < 256 ^ (n + m) ∧ w'.ownsRow w.heap.size 3 1 v (n + m) (Tabs .i64 (byt (A * B)) (n + m)) ∧ Below w.heap.size w w' := by
 obtain ⟨i0, hi, hz0, hz1, hz2⟩ := info_parts int_inf
 have hAB : A * B < 256 ^ (n + m) := by
  have := mulb_lt (A := A) (k := n) hB
  rwa [Nat.mod_eq_of_lt hA] at this
 have hAn : A % 256 ^ n * B = A * B := by rw [Nat.mod_eq_of_lt hA]
 have hLM : ((n : Int) + (m : Int)) = ((n + m : Nat) : Int) := by omega
 have HCA := yH hca
 have HGA := yH hgal
 have HRB := yH hrb
 have HB := yH hB
 have HAB := yH hAB
 have HAN := yH hAn
 have HLM := yH hLM
 have HI := yH hi
 have HZ0 := yH hz0
 have HZ1 := yH hz1
 have HZ2 := yH hz2
 clear hca hgal hrb hA hB hAB hAn hLM hi hz0 hz1 hz2
 go_enter Tryz.func108, Tryz.ntmps108
 go_wp2_with (at_make; refine wpList_make_full _ rfl _ _ 117 rfl w.heap.size 3 i0 (.int .i64 0) 1 Tryz.underlying117 HI.out HZ0.out HZ1.out _ _ _ _ (n + m) rfl rfl ?b0 ?b5 ?b1 ?b2 ?b3 ?_)
 case b0 => exact HLM.out
 case b5 => exact HLM.out
 case b1 => rw [HZ2.out]; omega
 case b2 => unfold maxLen; omega
 case b3 => omega
 intro w1 hown hgrow
 have hb1 : Below w.heap.size w w1 := (Below.refl _ _).grown hgrow (Nat.le_refl _) (fun k h => by cases h)
 have hown1 : w1.ownsRow w.heap.size 3 1 (.slice (some ⟨w.heap.size, 0, none⟩) (n + m) (n + m)) (n + m) (Tabs .i64 (byt 0) (n + m)) := by
  have e : (madeCells #[Value.int .i64 0] (n + m)).toList = Tabs .i64 (byt 0) (n + m) := by
   rw [toList_madeCells_one]
   refine List.ext_getElem? fun i => ?_
   by_cases hi : i < n + m
   ·rw [List.getElem?_replicate, if_pos hi, Tabs_get _ _ _ hi]
    have : byt 0 i = 0 := by unfold byt; rw [Nat.zero_div]
    rw [this]; rfl
   ·rw [List.getElem?_eq_none (by rw [List.length_replicate]; omega), List.getElem?_eq_none (by rw [Tabs_length]; omega)]
  rw [← e]
  simpa using hown
 have HOWN1 := yH hown1
 have HB1 := yH hb1
 clear hown hgrow hb1 hown1
 go_wp2_with fail
 go_loopw [6] (fun i wr => ∃ k : Nat, k ≤ n ∧ i = .int .i64 k ∧ wr.ownsRow w.heap.size 3 1 (.slice (some ⟨w.heap.size, 0, none⟩) (n + m) (n + m)) (n + m) (Tabs .i64 (byt (A % 256 ^ k * B)) (n + m)) ∧ Below w.heap.size w wr) (fun i _ => n - (intOf i).toNat)
 case atStart => exact ⟨0, Nat.zero_le _, rfl, by rw [Nat.pow_zero, Nat.mod_one, Nat.zero_mul]; exact HOWN1.out, HB1.out⟩
 case round =>
  obtain ⟨k, hkn, rfl, hown, hbe⟩ := hrel
  by_cases hk : k < n
  ·have bk0 : (0 : Int) ≤ (k : Int) := by omega
   have bk1 : (k : Int) < (n : Int) := by omega
   have HOWN := yH hown
   have HBE := yH hbe
   clear hown hbe
   go_wp2_with fail
   obtain ⟨wo, rfl⟩ : ∃ wo, wo = wr := ⟨_, rfl⟩
   go_loopw [7, 8] (fun o i wr => ∃ j c V : Nat, j ≤ m + 1 ∧ i = .int .i64 j ∧ o = .int .i64 (c : Int) ∧ c < 256 ∧ (j = m + 1 → c = 0) ∧ V < 256 ^ (n + m) ∧ V + c * 256 ^ (k + j) = A % 256 ^ k * B + byt A k * (B % 256 ^ j) * 256 ^ k ∧ wr.ownsRow w.heap.size 3 1 (.slice (some ⟨w.heap.size, 0, none⟩) (n + m) (n + m)) (n + m) (Tabs .i64 (byt V) (n + m)) ∧ Below w.heap.size w wr) (fun _ i _ => m + 1 - (intOf i).toNat)
   case atStart =>
    refine ⟨0, 0, A % 256 ^ k * B, Nat.zero_le _, rfl, rfl, by decide, fun _ => rfl, Nat.lt_of_lt_of_le (mulb_lt HB.out) (pow_le256 (by omega)), ?_, HOWN.out, HBE.out⟩
    rw [Nat.pow_zero, Nat.mod_one]
    simp
   case round =>
    obtain ⟨j, c, V, hjm, rfl, rfl, hc, hc0, hV, hi, hown, hbe⟩ := hrel
    by_cases hgo : j < m ∨ (j = m ∧ 0 < c)
    ·have hjm2 : j < m + 1 := by omega
     have hkj : k + j < n + m := by omega
     have hcell := hown.cellAt (k + j) (by omega)
     rw [Tabs_get .i64 (byt V) (n + m) hkj] at hcell
     have hcela := (hbe.cell (p := ⟨ga, k, none⟩) HGA.out).trans (HCA.out k hk)
     have hrbk := HRB.out.belowAll hbe
     have lx := byt_lt A k
     have ly := byt_lt B j
     have lv := byt_lt V (k + j)
     have hprod : byt A k * byt B j ≤ 255 * 255 := Nat.mul_le_mul (by omega) (by omega)
     obtain ⟨s, hs⟩ : ∃ s, s = (byt V (k + j) + byt A k * byt B j + c) % 256 := ⟨_, rfl⟩
     obtain ⟨d, hd⟩ : ∃ d, d = (byt V (k + j) + byt A k * byt B j + c) / 256 := ⟨_, rfl⟩
     have hsd : s + d * 256 = byt V (k + j) + byt A k * byt B j + c := by omega
     have hs256 : s < 256 := by omega
     have hd256 : d < 256 := by omega
     obtain ⟨V', hV', hput, hset⟩ := put_digit hV hkj hs256
     have hnew := mulb_inner hi hput hsd
     have hend : j + 1 = m + 1 → d = 0 := fun e => by
      obtain rfl : j = m := by omega
      exact mulb_end HB.out hnew
     have hat := fun W => at_pos B m HB.out b cb G j W (by omega) (by omega)
     have hgl : w.heap.size < wr.heap.size := lt_of_cell (a := ⟨w.heap.size, k + j, none⟩) hcell
     have hpr : ((byt A k : Nat) : Int) * ((byt B j : Nat) : Int) = ((byt A k * byt B j : Nat) : Int) := by simp
     have HPR := yH hpr
     generalize byt V (k + j) = y at *
     generalize byt A k * byt B j = pr at *
     generalize byt A k = x at *
     generalize byt B j = z at *
     have hmul : IntKind.i64.wrap ((x : Int) * (z : Int)) = (pr : Int) := by rw [HPR.out]; exact IntWalk.i64_in _ (by omega)
     have w1 : IntKind.i64.wrap ((k : Int) + (j : Int)) = (k : Int) + (j : Int) := IntWalk.i64_in _ (by omega)
     have w2 : IntKind.i64.wrap ((y : Int) + (pr : Int)) = (y : Int) + (pr : Int) := IntWalk.i64_in _ (by omega)
     have w3 : IntKind.i64.wrap ((y : Int) + (pr : Int) + (c : Int)) = (y : Int) + (pr : Int) + (c : Int) := IntWalk.i64_in _ (by omega)
     have w4 : (0 : Int) ≤ (k : Int) + (j : Int) := by omega
     have w5 : ((k : Int) + (j : Int)).toNat = k + j := by omega
     have w6 : (k : Int) + (j : Int) < (n : Int) + (m : Int) := by omega
     have hsm : ((y : Int) + (pr : Int) + (c : Int)) % 256 = (s : Int) := by omega
     have hsdv : ((y : Int) + (pr : Int) + (c : Int)) / 256 = (d : Int) := by omega
     have bj0 : (0 : Int) ≤ (j : Int) := by omega
     have bj1 : (j : Int) ≤ (m : Int) := by omega
     have HCELL := yH hcell
     have HCELA := yH hcela
     have HRBK := yH hrbk
     have HAT := yH hat
     have HSET := yH hset
     have HNEW := yH hnew
     have HEND := yH hend
     have HOWNK := yH hown
     have HBEK := yH hbe
     have HGL := yH hgl
     have HV' := yH hV'
     have HSM := yH hsm
     have HSDV := yH hsdv
     clear hcell hcela hrbk hat hset hnew hend hown hbe hgl hV' hsm hsdv hput hsd hs hd hi hV hpr hc0
     by_cases h1 : j < m
     ·clear hgo
      go_upto_region 9 with fail
      have hgal := Nat.lt_of_lt_of_le HGA.out HBEK.out.size
      have HGAL := yH hgal
      clear hgal
      refine wp_region_any (by kernel_rfl) ?_
      change wpAny _ _ _ _ _ _ _ (World.drew _)
      refine wpAny_of_held (S := (fun w' : World => Below wr.heap.size wr w')) _ _ _ _ ?_
      have hHeld := ((Below.refl wr.heap.size wr).drew)
      have hl : Ls [(0, 32), (1, 33), (2, 34), (6, 38), (7, 39), (10, 42), (11, 43), (15, 47), (3, 35), (8, 40), (4, 36)] := trivial
      repeat
       refine tkl hl (v := ?_) rfl rfl (by kernel_rfl) (fun _ _ _ h => h) (by rfl) ?_ hHeld ?_
       rotate_left
       ·(intro w' hSw; go_simp; try (with_reducible rfl))
       simp only [Act.put, yA, yB, yC]
       replace hl := hl.tl
      clear hl
      refine tk 9 41 (v := ?_) rfl rfl (by kernel_rfl) (fun _ _ _ h => h) (by rfl) ?_ hHeld ?_
      rotate_left
      ·(intro w' hSw; have c0 := (hSw.cell (p := ⟨ga, k, none⟩) HGAL.out).trans HCELA.out; go_simp; try (with_reducible rfl))
      simp only [Act.put, yA, yB, yC]
      refine tk 5 37 (v := ?_) rfl rfl (by kernel_rfl) (fun _ _ _ h => h) (by rfl) ?_ hHeld ?_
      rotate_left
      ·(intro w' hSw; have c0 := (hSw.cell (p := ⟨w.heap.size, k + j, none⟩) HGL.out).trans HCELL.out; go_simp; try (with_reducible rfl))
      simp only [Act.put, yA, yB, yC]
      refine wpAnyH_ready (rs := [12]) (by kernel_rfl) (by simp) ?_
      refine AllReadyH.cons rfl (fun K hK => ?_) AllReadyH.nil
      rw [if_pos (by kernel_rfl)]
      go_simp
      refine (HAT.out _ (HRBK.out.belowAll hHeld)).mono ?_
      rintro e w6 ⟨rfl, rfl⟩
      refine hK.out _ _ hHeld (fun hHeld => ?_)
      clear hK K
      have hl : Ls [(13, 45), (14, 46), (16, 48), (17, 9)] := trivial
      repeat
       refine tkl hl (v := ?_) rfl rfl (by kernel_rfl) (fun _ _ _ h => h) (by rfl) ?_ hHeld ?_
       rotate_left
       ·(intro w' hSw; go_simp; try (with_reducible rfl))
       simp only [Act.put, yA, yB, yC]
       replace hl := hl.tl
      clear hl
      refine wpAnyH_done (by kernel_rfl) ?_ _
      have hown6 := own_below HOWNK.out hHeld
      have hbe6 := HBEK.out.trans (hHeld.mono HBEK.out.size)
      have hc6 := (hHeld.cell (p := ⟨w.heap.size, k + j, none⟩) HGL.out).trans HCELL.out
      have hf6 := hown6.frozenAt (k + j)
      have hst6 := (hown6.stored (k + j) (.int .i64 (s : Int))).1
      rw [HSET.out] at hst6
      have hbs6 := hbe6.setCell (p := ⟨w.heap.size, k + j, none⟩) (Nat.le_refl _) (.int .i64 (s : Int))
      have HST6 := yH hst6
      have HBS6 := yH hbs6
      have hsm := HSM.out
      clear hown6 hbe6 hst6 hbs6 hHeld hmul w1 w2 w3 w4 w5
      go_wp2_with fail
      go_roundw
      case rel => exact ⟨j + 1, d, V', by omega, by go_num, by rw [HSDV.out], hd256, HEND.out, HV'.out, HNEW.out, HST6.out, HBS6.out⟩
      case measure => simp [intOf] <;> omega
     ·have hc0 : 0 < c := by omega
      have hc0i : (0 : Int) < (c : Int) := by omega
      have h1i : (m : Int) ≤ (j : Int) := by omega
      clear hgo
      go_upto_region 9 with fail
      have hgal := Nat.lt_of_lt_of_le HGA.out HBEK.out.size
      have HGAL := yH hgal
      clear hgal
      refine wp_region_any (by kernel_rfl) ?_
      change wpAny _ _ _ _ _ _ _ (World.drew _)
      refine wpAny_of_held (S := (fun w' : World => Below wr.heap.size wr w')) _ _ _ _ ?_
      have hHeld := ((Below.refl wr.heap.size wr).drew)
      have hl : Ls [(0, 32), (1, 33), (2, 34), (6, 38), (7, 39), (10, 42), (11, 43), (15, 47), (3, 35), (8, 40), (4, 36)] := trivial
      repeat
       refine tkl hl (v := ?_) rfl rfl (by kernel_rfl) (fun _ _ _ h => h) (by rfl) ?_ hHeld ?_
       rotate_left
       ·(intro w' hSw; go_simp; try (with_reducible rfl))
       simp only [Act.put, yA, yB, yC]
       replace hl := hl.tl
      clear hl
      refine tk 9 41 (v := ?_) rfl rfl (by kernel_rfl) (fun _ _ _ h => h) (by rfl) ?_ hHeld ?_
      rotate_left
      ·(intro w' hSw; have c0 := (hSw.cell (p := ⟨ga, k, none⟩) HGAL.out).trans HCELA.out; go_simp; try (with_reducible rfl))
      simp only [Act.put, yA, yB, yC]
      refine tk 5 37 (v := ?_) rfl rfl (by kernel_rfl) (fun _ _ _ h => h) (by rfl) ?_ hHeld ?_
      rotate_left
      ·(intro w' hSw; have c0 := (hSw.cell (p := ⟨w.heap.size, k + j, none⟩) HGL.out).trans HCELL.out; go_simp; try (with_reducible rfl))
      simp only [Act.put, yA, yB, yC]
      refine wpAnyH_ready (rs := [12]) (by kernel_rfl) (by simp) ?_
      refine AllReadyH.cons rfl (fun K hK => ?_) AllReadyH.nil
      rw [if_pos (by kernel_rfl)]
      go_simp
      refine (HAT.out _ (HRBK.out.belowAll hHeld)).mono ?_
      rintro e w6 ⟨rfl, rfl⟩
      refine hK.out _ _ hHeld (fun hHeld => ?_)
      clear hK K
      have hl : Ls [(13, 45), (14, 46), (16, 48), (17, 9)] := trivial
      repeat
       refine tkl hl (v := ?_) rfl rfl (by kernel_rfl) (fun _ _ _ h => h) (by rfl) ?_ hHeld ?_
       rotate_left
       ·(intro w' hSw; go_simp; try (with_reducible rfl))
       simp only [Act.put, yA, yB, yC]
       replace hl := hl.tl
      clear hl
      refine wpAnyH_done (by kernel_rfl) ?_ _
      have hown6 := own_below HOWNK.out hHeld
      have hbe6 := HBEK.out.trans (hHeld.mono HBEK.out.size)
      have hc6 := (hHeld.cell (p := ⟨w.heap.size, k + j, none⟩) HGL.out).trans HCELL.out
      have hf6 := hown6.frozenAt (k + j)
      have hst6 := (hown6.stored (k + j) (.int .i64 (s : Int))).1
      rw [HSET.out] at hst6
      have hbs6 := hbe6.setCell (p := ⟨w.heap.size, k + j, none⟩) (Nat.le_refl _) (.int .i64 (s : Int))
      have HST6 := yH hst6
      have HBS6 := yH hbs6
      have hsm := HSM.out
      clear hown6 hbe6 hst6 hbs6 hHeld hmul w1 w2 w3 w4 w5
      go_wp2_with fail
      go_roundw
      case rel => exact ⟨j + 1, d, V', by omega, by go_num, by rw [HSDV.out], hd256, HEND.out, HV'.out, HNEW.out, HST6.out, HBS6.out⟩
      case measure => simp [intOf] <;> omega
    ·have hjm2 : m ≤ j := by omega
     have hc00 : c = 0 := by
      by_cases e : j = m
      ·omega
      ·exact hc0 (by omega)
     rw [hc00, Nat.zero_mul, Nat.add_zero, mulb_all HB.out hjm2] at hi
     rw [hi] at hown
     have h1i : (m : Int) ≤ (j : Int) := by omega
     have HOWN4 := yH hown
     have HBE4 := yH hbe
     rw [hc00]
     clear hgo hi hown hbe hc0 hc00 hV hc
     go_wp2_with fail
     go_roundw
     case rel => exact ⟨k + 1, by omega, by go_num, HOWN4.out, HBE4.out⟩
     case measure => simp [intOf] <;> omega
  ·obtain rfl : k = n := by omega
   rw [HAN.out] at hown
   have HOWN := yH hown
   have HBE := yH hbe
   clear hown hbe
   go_wp2_with fail
   go_ret
   exact ⟨_, rfl, HAB.out, HOWN.out, HBE.out⟩
theorem own_cells {w : World} {base g n c : Nat} {N : Nat} (h : w.ownsRow base 3 1 (.slice (some ⟨g, 0, none⟩) n c) n (Tabs .i64 (byt N) n)) : ∀ k, k < n → w.cell? ⟨g, k, none⟩ = some (.int .i64 ((byt N k : Nat) : Int)) := fun k hk => by
 rw [h.cellAt k (by omega), Tabs_get .i64 (byt N) n hk]
theorem rbytes_q (A B C L : Nat) (h64 : 64 ≤ L) (hL : L ≤ 1000) (a : Option Addr) (cap : Nat) (F : Nat → Prop) (w : World) (hr : Rd w F a L (Tabs .i64 (byt ((A * B + C) % qq)) L)) :
  Calls Tryz.prog 105 #[.slice a L cap] w fun e w' => e = .returned (.agg (By (mulq A B C) 32).toArray) ∧ Below w.heap.size w w' :=
 rbytes_any ((A * B + C) % qq) L (Nat.lt_of_lt_of_le (r_lt64 _) (pow_le256 h64)) hL a cap F w hr
set_option maxHeartbeats 3200000 in
theorem muladd_doc (A B C : Nat) (hA : A < 256 ^ 32) (hB : B < 256 ^ 32) (hC : C < 256 ^ 32) (w : World) :
  Calls Tryz.prog 70 #[.agg (By A 32).toArray, .agg (By B 32).toArray, .agg (By C 32).toArray] w fun e w' => e = .returned (.agg (By (mulq A B C) 32).toArray) ∧ Below w.heap.size w w' := by
 have ha := ((Row.new w (By A 32) 22).alloc (.cells (By B 32).toArray 22)).alloc (.cells (By C 32).toArray 22) |>.alloc (.cells (List.replicate 32 (Value.int .u8 0)).toArray 22)
 have hb := ((Row.new1 w (.cells (By A 32).toArray 22) (By B 32) 22).alloc (.cells (By C 32).toArray 22)).alloc (.cells (List.replicate 32 (Value.int .u8 0)).toArray 22)
 have hc := (Row.new2 w (.cells (By A 32).toArray 22) (.cells (By B 32).toArray 22) (By C 32) 22).alloc (.cells (List.replicate 32 (Value.int .u8 0)).toArray 22)
 have hr := Row.new3 w (.cells (By A 32).toArray 22) (.cells (By B 32).toArray 22) (.cells (By C 32).toArray 22) (List.replicate 32 (Value.int .u8 0)) 22
 have hb0 := Below.alloc4 w (.cells (By A 32).toArray 22) (.cells (By B 32).toArray 22) (.cells (By C 32).toArray 22) (.cells (List.replicate 32 (Value.int .u8 0)).toArray 22)
 have hsz : ((((w.alloc (.cells (By A 32).toArray 22)).alloc (.cells (By B 32).toArray 22)).alloc (.cells (By C 32).toArray 22)).alloc (.cells (List.replicate 32 (Value.int .u8 0)).toArray 22)).heap.size = w.heap.size + 1 + 1 + 1 + 1 := by simp
 have hS8 : ∀ x, (Tryz.prog.info? 22).map (·.size) = some (By x 32).toArray.size := by_info
 have hO8 : ∀ x, (List.replicate 32 (Value.int .u8 0)).toArray.size = (By x 32).toArray.size := fun x => by rw [List.size_toArray, List.size_toArray, By_length, List.length_replicate]
 have HA := yH ha
 have HB := yH hb
 have HC := yH hc
 have HR := yH hr
 have HB0 := yH hb0
 have HSZ := yH hsz
 have HS8 := yH hS8
 have HO8 := yH hO8
 have HA0 := yH hA
 have HB00 := yH hB
 have HC0 := yH hC
 clear ha hb hc hr hb0 hsz hA hB hC hS8 hO8
 go_enter Tryz.func70, Tryz.ntmps70
 go_upto_region 1 with fail
 change Code.wp _ _ _ _ ((((w.alloc (.cells (By A 32).toArray 22)).alloc (.cells (By B 32).toArray 22)).alloc (.cells (By C 32).toArray 22)).alloc (.cells (List.replicate 32 (Value.int .u8 0)).toArray 22))
 generalize (((w.alloc (.cells (By A 32).toArray 22)).alloc (.cells (By B 32).toArray 22)).alloc (.cells (By C 32).toArray 22)).alloc (.cells (List.replicate 32 (Value.int .u8 0)).toArray 22) = W at *
 have hl0 : Row W.drew (w.heap.size + 1 + 1 + 1) 22 (List.replicate 32 (Value.int .u8 0)) := HR.out
 refine wp_region_any (by kernel_rfl) ?_
 change wpAny _ _ _ _ _ _ _ (World.drew _)
 refine wpAny_of_held (S := (fun w' : World => Only (fun k => k = w.heap.size + 1 + 1 + 1) W w')) _ _ _ _ ?_
 have hHeld := ((Only.refl (fun k => k = w.heap.size + 1 + 1 + 1) W).drew)
 have hl : Ls [(0, 7), (2, 9), (5, 12)] := trivial
 repeat
  refine tkl hl (v := ?_) rfl rfl (by kernel_rfl) (fun _ _ _ h => h) (by rfl) ?_ hHeld ?_
  rotate_left
  ·(intro w' hSw; go_simp; try (with_reducible rfl))
  simp only [Act.put, yA, yB, yC]
  replace hl := hl.tl
 clear hl
 refine wpAnyH_ready (rs := [1]) (by kernel_rfl) (by simp) ?_
 refine AllReadyH.cons rfl (fun K hK => ?_) AllReadyH.nil
 rw [if_pos (by kernel_rfl)]
 go_simp
 refine (digits_any A 32 (by decide) (some ⟨w.heap.size, 0, none⟩) 32 _ _ ((HA.out.only hHeld (by show ¬ _ = w.heap.size + 1 + 1 + 1; omega)).rd (By_length A 32))).mono ?_
 rintro e w_c0 ⟨v, rfl, oa, hbw_c0⟩
 obtain ⟨ga, ca, rfl, _, _⟩ := oa.form (by decide)
 have hlw_c0 := hl0.belowAll hbw_c0
 refine hK.out _ _ (hHeld.trans (Only.of_below hbw_c0 _) (fun _ _ h => h)) (fun hHeld => ?_)
 clear hK K
 refine wpAnyH_ready (rs := [3]) (by kernel_rfl) (by simp) ?_
 refine AllReadyH.cons rfl (fun K hK => ?_) AllReadyH.nil
 rw [if_pos (by kernel_rfl)]
 go_simp
 refine (digits_any B 32 (by decide) (some ⟨(w.heap.size + 1), 0, none⟩) 32 _ _ ((HB.out.only hHeld (by show ¬ _ = w.heap.size + 1 + 1 + 1; omega)).rd (By_length B 32))).mono ?_
 rintro e w_c1 ⟨v, rfl, ob, hbw_c1⟩
 obtain ⟨gb, cb, rfl, _, _⟩ := ob.form (by decide)
 have oa_1 := own_below oa hbw_c1
 have hlw_c1 := hlw_c0.belowAll hbw_c1
 refine hK.out _ _ (hHeld.trans (Only.of_below hbw_c1 _) (fun _ _ h => h)) (fun hHeld => ?_)
 clear hK K
 refine wpAnyH_ready (rs := [4]) (by kernel_rfl) (by simp) ?_
 refine AllReadyH.cons rfl (fun K hK => ?_) AllReadyH.nil
 rw [if_pos (by kernel_rfl)]
 go_simp
 refine (mul_doc A 32 B 32 ga HA0.out HB00.out (by decide) (by decide) (by decide) (some ⟨gb, 0, none⟩) ca cb _ _ (own_cells oa_1) (oa_1.lt ga rfl).2 (Rd.of_own ob)).mono ?_
 rintro e w_c2 ⟨v, rfl, hab, om, hbw_c2⟩
 obtain ⟨gm, cm, rfl, _, _⟩ := om.form (by decide)
 have oa_1_2 := own_below oa_1 hbw_c2
 have ob_2 := own_below ob hbw_c2
 have hlw_c2 := hlw_c1.belowAll hbw_c2
 refine hK.out _ _ (hHeld.trans (Only.of_below hbw_c2 _) (fun _ _ h => h)) (fun hHeld => ?_)
 clear hK K
 refine wpAnyH_ready (rs := [6]) (by kernel_rfl) (by simp) ?_
 refine AllReadyH.cons rfl (fun K hK => ?_) AllReadyH.nil
 rw [if_pos (by kernel_rfl)]
 go_simp
 refine (digits_any C 32 (by decide) (some ⟨(w.heap.size + 1 + 1), 0, none⟩) 32 _ _ ((HC.out.only hHeld (by show ¬ _ = w.heap.size + 1 + 1 + 1; omega)).rd (By_length C 32))).mono ?_
 rintro e w_c3 ⟨v, rfl, oc, hbw_c3⟩
 obtain ⟨gc, cc, rfl, _, _⟩ := oc.form (by decide)
 have oa_1_2_3 := own_below oa_1_2 hbw_c3
 have ob_2_3 := own_below ob_2 hbw_c3
 have om_3 := own_below om hbw_c3
 have hlw_c3 := hlw_c2.belowAll hbw_c3
 refine hK.out _ _ (hHeld.trans (Only.of_below hbw_c3 _) (fun _ _ h => h)) (fun hHeld => ?_)
 clear hK K
 refine wpAnyH_ready (rs := [7]) (by kernel_rfl) (by simp) ?_
 refine AllReadyH.cons rfl (fun K hK => ?_) AllReadyH.nil
 rw [if_pos (by kernel_rfl)]
 go_simp
 refine (add_doc (A * B) 64 C 32 hab HC0.out (by decide) (by decide) (some ⟨gm, 0, none⟩) (some ⟨gc, 0, none⟩) cm cc _ _ _ (Rd.of_own om_3) (Rd.of_own oc)).mono ?_
 rintro e w_c4 ⟨v, L, rfl, hL1, hL2, hsum, os, hbw_c4⟩
 obtain ⟨gs, cs, rfl, _, _⟩ := os.form (by omega)
 have oa_1_2_3_4 := own_below oa_1_2_3 hbw_c4
 have ob_2_3_4 := own_below ob_2_3 hbw_c4
 have om_3_4 := own_below om_3 hbw_c4
 have oc_4 := own_below oc hbw_c4
 have hlw_c4 := hlw_c3.belowAll hbw_c4
 refine hK.out _ _ (hHeld.trans (Only.of_below hbw_c4 _) (fun _ _ h => h)) (fun hHeld => ?_)
 clear hK K
 refine wpAnyH_ready (rs := [8]) (by kernel_rfl) (by simp) ?_
 refine AllReadyH.cons rfl (fun K hK => ?_) AllReadyH.nil
 rw [if_pos (by kernel_rfl)]
 go_simp
 refine (rest_doc (A * B + C) L hsum (by omega) (by omega) (some ⟨gs, 0, none⟩) cs _ _ (Rd.of_own os)).mono ?_
 rintro e w_c5 ⟨v, rfl, ot, hbw_c5⟩
 obtain ⟨gt, ct, rfl, _, _⟩ := ot.form (by omega)
 have oa_1_2_3_4_5 := own_below oa_1_2_3_4 hbw_c5
 have ob_2_3_4_5 := own_below ob_2_3_4 hbw_c5
 have om_3_4_5 := own_below om_3_4 hbw_c5
 have oc_4_5 := own_below oc_4 hbw_c5
 have os_5 := own_below os hbw_c5
 have hlw_c5 := hlw_c4.belowAll hbw_c5
 refine hK.out _ _ (hHeld.trans (Only.of_below hbw_c5 _) (fun _ _ h => h)) (fun hHeld => ?_)
 clear hK K
 refine wpAnyH_ready (rs := [9]) (by kernel_rfl) (by simp) ?_
 refine AllReadyH.cons rfl (fun K hK => ?_) AllReadyH.nil
 rw [if_pos (by kernel_rfl)]
 go_simp
 refine (rbytes_q A B C L (by omega) (by omega) (some ⟨gt, 0, none⟩) ct _ _ (Rd.of_own ot)).mono ?_
 rintro e w_c6 ⟨rfl, hbw_c6⟩
 have oa_1_2_3_4_5_6 := own_below oa_1_2_3_4_5 hbw_c6
 have ob_2_3_4_5_6 := own_below ob_2_3_4_5 hbw_c6
 have om_3_4_5_6 := own_below om_3_4_5 hbw_c6
 have oc_4_5_6 := own_below oc_4_5 hbw_c6
 have os_5_6 := own_below os_5 hbw_c6
 have ot_6 := own_below ot hbw_c6
 have hlw_c6 := hlw_c5.belowAll hbw_c6
 refine hK.out _ _ (hHeld.trans (Only.of_below hbw_c6 _) (fun _ _ h => h)) (fun hHeld => ?_)
 clear hK K
 refine wpAnyH_ready (rs := [10]) (by kernel_rfl) (by simp) ?_
 refine AllReadyH.cons rfl (fun K hK => ?_) AllReadyH.nil
 rw [if_pos (by kernel_rfl)]
 refine wp_store_row 22 (.tmp 6) (.tmp 16) rfl (w.heap.size + 1 + 1 + 1) (By (mulq A B C) 32).toArray rfl rfl 22 _ hlw_c6 (HS8.out _) (HO8.out _) (By_one _ _) ?_
 have hs7 := hlw_c6.setRow (By (mulq A B C) 32)
 refine hK.out _ _ (hHeld.setRow (.inl rfl)) (fun hHeld => ?_)
 clear hK K
 refine wpAnyH_done (by kernel_rfl) ?_ _
 have HF := yH hHeld
 have HG := yH hs7
 clear hHeld hs7
 go_wp2_with fail
 refine bodyPost_ret (results_cell_row (by rfl) _ _ (w.heap.size + 1 + 1 + 1) _ _ _ _ (by rfl) HG.out Tryz.underlying22 rfl (HS8.out _)) rfl ?_
 exact ⟨rfl, HB0.out.trans (HF.out.below (by rw [HSZ.out]; omega) (fun k e => by subst e; omega))⟩
end Go.Proofs.YtnpjecdodhkplaaGreatDoor
