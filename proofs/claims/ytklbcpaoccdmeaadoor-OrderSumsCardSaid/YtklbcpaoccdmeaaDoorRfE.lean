/- The document's digits: Add. -/
import Derived.Test.YtklbcpaoccdmeaaDoorRfD
import Derived.Laws.BitsAllLaws
import Derived.Deep.CutRange
import Derived.Deep.CutBlock
import Derived.RegionTactic
import Derived.Lib.Hide
import Derived.IntWalk
namespace Go.Proofs.YtklbcpaoccdmeaaDoor
set_option maxRecDepth 100000
open Go.RowKit

theorem cyb_big {A B n k : Nat} (hA : A < 256 ^ n) (hB : B < 256 ^ n) (hk : n ≤ k) (h : cyb A B k = 0) : A + B < 256 ^ k := by
  unfold cyb at h
  rw [Nat.mod_eq_of_lt (Nat.lt_of_lt_of_le hA (pow_le256 hk)), Nat.mod_eq_of_lt (Nat.lt_of_lt_of_le hB (pow_le256 hk))] at h
  exact (Nat.div_eq_zero_iff_lt (p256 k)).1 h
theorem cyb_next {A B n : Nat} (hA : A < 256 ^ n) (hB : B < 256 ^ n) : cyb A B (n + 1) = 0 := by
  unfold cyb
  rw [Nat.mod_eq_of_lt (Nat.lt_of_lt_of_le hA (pow_le256 (by omega))), Nat.mod_eq_of_lt (Nat.lt_of_lt_of_le hB (pow_le256 (by omega)))]
  rw [Nat.div_eq_zero_iff_lt (p256 _), Nat.pow_succ]
  omega
set_option maxHeartbeats 3200000 in
theorem add_doc (A n B m : Nat) (hA : A < 256 ^ n) (hB : B < 256 ^ m) (hn : n ≤ 500) (hm : m ≤ 500) (a b : Option Addr) (ca cb : Nat) (F G : Nat → Prop) (w : World) (hra : Rd w F a n (Tabs .i64 (byt A) n)) (hrb : Rd w G b m (Tabs .i64 (byt B) m)) :
    Calls Tryd.prog 28 #[.slice a n ca, .slice b m cb] w fun e w' => ∃ v L, e = .returned v ∧ n ≤ L ∧ L ≤ 501 ∧ A + B < 256 ^ L ∧ w'.ownsRow w.heap.size 3 1 v L (Tabs .i64 (byt (A + B)) L) ∧ Below w.heap.size w w' := by
  obtain ⟨i0, hi, hz0, hz1, hz2⟩ := info_parts int_inf
  obtain ⟨N, hN⟩ : ∃ N, N = max n m := ⟨_, rfl⟩
  have hN1 : n ≤ N := by omega
  have hN2 : m ≤ N := by omega
  have hN3 : N ≤ 500 := by omega
  have hAN : A < 256 ^ N := Nat.lt_of_lt_of_le hA (pow_le256 hN1)
  have hBN : B < 256 ^ N := Nat.lt_of_lt_of_le hB (pow_le256 hN2)
  have hNN : N = n ∨ N = m := by omega
  have HRA := Lib.hid hra
  have HRB := Lib.hid hrb
  have HA := Lib.hid hA
  have HB := Lib.hid hB
  have HAN := Lib.hid hAN
  have HBN := Lib.hid hBN
  have HNN := Lib.hid hNN
  have HI := Lib.hid hi
  have HZ0 := Lib.hid hz0
  have HZ1 := Lib.hid hz1
  have HZ2 := Lib.hid hz2
  clear hra hrb hA hB hAN hBN hN hi hz0 hz1 hz2 hNN
  go_enter Tryd.func28, Tryd.ntmps28
  go_wp2_with fail
  go_loopw [5, 6, 7] (fun v o i wr => ∃ k : Nat, k ≤ N + 1 ∧ i = .int .i64 k ∧ o = .int .i64 ((cyb A B k : Nat) : Int) ∧ wr.ownsRow w.heap.size 3 1 v k (Tabs .i64 (byt (A + B)) k) ∧ Below w.heap.size w wr) (fun _ _ i _ => N + 1 - (intOf i).toNat)
  case atStart => exact ⟨0, Nat.zero_le _, rfl, by rw [cyb_zero]; rfl, World.ownsRow_nil _ _ _ _, Below.refl _ _⟩
  case round =>
    obtain ⟨k, hkn, rfl, rfl, hown, hbe⟩ := hrel
    obtain ⟨A1, c1, rfl⟩ := own_slice hown
    have hcl := cyb_le A B k
    by_cases hgo : k < N ∨ (k = N ∧ 0 < cyb A B k)
    · have hkN : k < N + 1 := by omega
      have hsum := sum_byt A B k
      have hsn := Tabs_snoc .i64 (byt (A + B)) k
      have ha := at_pos A n HA.out a ca F k wr (by omega) (by omega) (HRA.out.belowAll hbe)
      have hb := at_pos B m HB.out b cb G k wr (by omega) (by omega) (HRB.out.belowAll hbe)
      have lx := byt_lt A k
      have ly := byt_lt B k
      have lz := byt_lt (A + B) k
      have hcl2 := cyb_le A B (k + 1)
      generalize byt A k = x at *
      generalize byt B k = y at *
      generalize byt (A + B) k = z at *
      generalize cyb A B k = c at *
      generalize hc' : cyb A B (k + 1) = c' at *
      have HC' := Lib.hid hc'
      clear hc'
      have hz1 : ((x : Int) + (y : Int) + (c : Int)) % 256 = (z : Int) := by omega
      have hz2 : ((x : Int) + (y : Int) + (c : Int)) / 256 = (c' : Int) := by omega
      have hrd := Rd.lit wr [Value.int .i64 (z : Int)] #[Value.int .i64 (z : Int)] 3 rfl 1 rfl
      have hown1 := hown.alloc (.cells #[Value.int .i64 (z : Int)] 3)
      have hbe1 := hbe.alloc hbe.size (.cells #[Value.int .i64 (z : Int)] 3)
      have q1 : k + 1 ≤ maxLen := by unfold maxLen; omega
      have q2 : (k + 1) * 8 ≤ 140737488355328 := by omega
      have q3 : w.heap.size ≤ (wr.alloc (.cells #[Value.int .i64 (z : Int)] 3)).heap.size := by have := hbe.size; simp; omega
      have HX := Lib.hid ha
      have HY := Lib.hid hb
      have HZM := Lib.hid hz1
      have HZD := Lib.hid hz2
      have HOWN := Lib.hid hown1
      have HBE := Lib.hid hbe1
      have HRD := Lib.hid hrd
      have HSN := Lib.hid hsn
      have HQ1 := Lib.hid q1
      have HQ2 := Lib.hid q2
      have HQ3 := Lib.hid q3
      clear hown hbe hsum hsn ha hb hrd hown1 hbe1 q1 q2 q3 hz1 hz2
      by_cases h1 : k < n
      · clear hgo
        go_wp2_with fail
        refine HX.out.mono ?_
        rintro e w' ⟨rfl, rfl⟩
        go_wp2_with fail
        refine HY.out.mono ?_
        rintro e w' ⟨rfl, rfl⟩
        have hzm := HZM.out

        go_wp2_with (at_builtin; refine wpList_append_rd _ rfl (.tmp 34) (.tmp 37) 42 rfl w.heap.size 3 i0 (.int .i64 0) 8 Tryd.underlying42 HI.out HZ0.out HZ1.out HZ2.out rfl (.slice A1 k c1) k (Tabs .i64 (byt (A + B)) k) rfl HOWN.out _ (some ⟨w'.heap.size, 0, none⟩) 1 1 [Value.int .i64 (z : Int)] rfl HRD.out (by intro u hu; rw [List.mem_singleton.1 hu]; rfl) HQ1.out HQ2.out HQ3.out ?_; intro v2 w2 hown2 hgrow hat; have HO2 := Lib.hid hown2; have hb2 := HBE.out.grown hgrow HQ3.out (fun q hq => (HOWN.out.lt q hq).1); have HB2 := Lib.hid hb2; clear hown2 hgrow hat hb2)
        go_roundw
        case rel => exact ⟨k + 1, by omega, by go_num, by rw [HC'.out, HZD.out], by rw [HSN.out]; exact HO2.out, HB2.out⟩
        case measure => simp [intOf] <;> omega
      · by_cases h2 : k < m
        · clear hgo
          have h1i : (n : Int) ≤ (k : Int) := by omega
          go_wp2_with fail
          refine HX.out.mono ?_
          rintro e w' ⟨rfl, rfl⟩
          go_wp2_with fail
          refine HY.out.mono ?_
          rintro e w' ⟨rfl, rfl⟩
          have hzm := HZM.out

          go_wp2_with (at_builtin; refine wpList_append_rd _ rfl (.tmp 34) (.tmp 37) 42 rfl w.heap.size 3 i0 (.int .i64 0) 8 Tryd.underlying42 HI.out HZ0.out HZ1.out HZ2.out rfl (.slice A1 k c1) k (Tabs .i64 (byt (A + B)) k) rfl HOWN.out _ (some ⟨w'.heap.size, 0, none⟩) 1 1 [Value.int .i64 (z : Int)] rfl HRD.out (by intro u hu; rw [List.mem_singleton.1 hu]; rfl) HQ1.out HQ2.out HQ3.out ?_; intro v2 w2 hown2 hgrow hat; have HO2 := Lib.hid hown2; have hb2 := HBE.out.grown hgrow HQ3.out (fun q hq => (HOWN.out.lt q hq).1); have HB2 := Lib.hid hb2; clear hown2 hgrow hat hb2)
          go_roundw
          case rel => exact ⟨k + 1, by omega, by go_num, by rw [HC'.out, HZD.out], by rw [HSN.out]; exact HO2.out, HB2.out⟩
          case measure => simp [intOf] <;> omega
        · have hc0 : 0 < c := by
            rcases hgo with h | h
            · have := HNN.out; omega
            · exact h.2
          have hc0i : (0 : Int) < (c : Int) := by omega
          have h1i : (n : Int) ≤ (k : Int) := by omega
          have h2i : (m : Int) ≤ (k : Int) := by omega
          clear hgo
          go_wp2_with fail
          refine HX.out.mono ?_
          rintro e w' ⟨rfl, rfl⟩
          go_wp2_with fail
          refine HY.out.mono ?_
          rintro e w' ⟨rfl, rfl⟩
          have hzm := HZM.out

          go_wp2_with (at_builtin; refine wpList_append_rd _ rfl (.tmp 34) (.tmp 37) 42 rfl w.heap.size 3 i0 (.int .i64 0) 8 Tryd.underlying42 HI.out HZ0.out HZ1.out HZ2.out rfl (.slice A1 k c1) k (Tabs .i64 (byt (A + B)) k) rfl HOWN.out _ (some ⟨w'.heap.size, 0, none⟩) 1 1 [Value.int .i64 (z : Int)] rfl HRD.out (by intro u hu; rw [List.mem_singleton.1 hu]; rfl) HQ1.out HQ2.out HQ3.out ?_; intro v2 w2 hown2 hgrow hat; have HO2 := Lib.hid hown2; have hb2 := HBE.out.grown hgrow HQ3.out (fun q hq => (HOWN.out.lt q hq).1); have HB2 := Lib.hid hb2; clear hown2 hgrow hat hb2)
          go_roundw
          case rel => exact ⟨k + 1, by omega, by go_num, by rw [HC'.out, HZD.out], by rw [HSN.out]; exact HO2.out, HB2.out⟩
          case measure => simp [intOf] <;> omega
    · have hkN : N ≤ k := by omega
      have hc0 : cyb A B k = 0 := by
        by_cases e : k = N
        · omega
        · obtain rfl : k = N + 1 := by omega
          exact cyb_next HAN.out HBN.out
      have hlt := cyb_big HAN.out HBN.out hkN hc0
      have h1i : (n : Int) ≤ (k : Int) := by omega
      have h2i : (m : Int) ≤ (k : Int) := by omega
      have HLT := Lib.hid hlt
      have HOWN := Lib.hid hown
      have HBE := Lib.hid hbe
      rw [hc0]
      clear hgo hc0 hlt hown hbe hcl
      go_wp2_with fail
      go_ret
      exact ⟨_, k, rfl, by omega, by omega, HLT.out, HOWN.out, HBE.out⟩

end Go.Proofs.YtklbcpaoccdmeaaDoor
