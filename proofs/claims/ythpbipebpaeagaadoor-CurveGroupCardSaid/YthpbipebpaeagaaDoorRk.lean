/- The document's powers and halves: plain arithmetic. The document's Pow. The document's shift. -/
import Derived.Test.YthpbipebpaeagaaDoorRj
import Derived.Test.YthpbipebpaeagaaDoorPowF
import Derived.Test.YthpbipebpaeagaaDoorNu
namespace Go.Proofs.YthpbipebpaeagaaDoor
section
open Go.RowKit

theorem pw_one {A e i : Nat} (h : e / 2 ^ i % 2 = 1) : A ^ (e % 2 ^ i) % pp * (A ^ (2 ^ i) % pp) % pp = A ^ (e % 2 ^ (i + 1)) % pp := by
  rw [Nat.pow_succ 2 i, Nat.mod_mul, h, Nat.mul_one, Nat.pow_add, ← Nat.mul_mod]
theorem pw_no {e i : Nat} (h : ¬ e / 2 ^ i % 2 = 1) : e % 2 ^ (i + 1) = e % 2 ^ i := by
  have h0 : e / 2 ^ i % 2 = 0 := by omega
  rw [Nat.pow_succ 2 i, Nat.mod_mul, h0, Nat.mul_zero, Nat.add_zero]
theorem pw_sq (A i : Nat) : A ^ (2 ^ i) % pp * (A ^ (2 ^ i) % pp) % pp = A ^ (2 ^ (i + 1)) % pp := by
  rw [← Nat.mul_mod, ← Nat.pow_add, Nat.pow_succ 2 i]
  congr 2
  omega
/-- Squares of squares; the power by the lowest bits. -/
def pwA (A i : Nat) : Nat := A ^ (2 ^ i) % pp
def pwO (A e i : Nat) : Nat := A ^ (e % 2 ^ i) % pp
theorem pwA_zero {A : Nat} (h : A < pp) : pwA A 0 = A := by
  unfold pwA
  rw [Nat.pow_zero, Nat.pow_one, Nat.mod_eq_of_lt h]
theorem pwO_zero (A e : Nat) : pwO A e 0 = 1 := by
  unfold pwO
  rw [Nat.pow_zero, Nat.mod_one, Nat.pow_zero]
  rfl
theorem pwA_sq (A i : Nat) : pwA A i * pwA A i % pp = pwA A (i + 1) := pw_sq A i
theorem pwO_one {A e i : Nat} (h : e / 2 ^ i % 2 = 1) : pwO A e i * pwA A i % pp = pwO A e (i + 1) := pw_one h
theorem pwO_no {A e i : Nat} (h : ¬ e / 2 ^ i % 2 = 1) : pwO A e (i + 1) = pwO A e i := by
  unfold pwO
  rw [pw_no h]
theorem pwO_all {A e : Nat} (h : e < 2 ^ 256) : pwO A e 256 = A ^ e % pp := by
  unfold pwO
  rw [Nat.mod_eq_of_lt h]
theorem pwA_lt (A i : Nat) : pwA A i < W8 := Nat.lt_trans (Nat.mod_lt _ (by decide)) pp_W8
theorem pwO_lt (A e i : Nat) : pwO A e i < W8 := Nat.lt_trans (Nat.mod_lt _ (by decide)) pp_W8
/-- Half a number, digit by digit, the highest one first. -/
def hf (N k i : Nat) : Nat := if i < k then dw N i else dw (N / 2) i
theorem hf_dig (N i : Nat) : dw (N / 2) i = dw N i / 2 + dw N (i + 1) % 2 * 2147483648 := by
  have h1 : N / 2 / 4294967296 ^ i = N / 4294967296 ^ i / 2 := by rw [Nat.div_div_eq_div_mul, Nat.div_div_eq_div_mul, Nat.mul_comm]
  have h2 := dw_succ N i
  have h3 := dw_succ N (i + 1)
  have l0 := dw_lt N i
  have e : dw (N / 2) i = N / 4294967296 ^ i / 2 % 4294967296 := by
    unfold dw
    rw [h1]
  rw [e]
  generalize N / 4294967296 ^ (i + 1 + 1) = c at *
  generalize N / 4294967296 ^ (i + 1) = b at *
  generalize N / 4294967296 ^ i = a at *
  omega
theorem hf_all (N : Nat) : Tabs .u32 (hf N 0) 8 = Nw (N / 2) := Tabs_congr _ fun i _ => by unfold hf; rw [if_neg (by omega)]
theorem hf_none (N : Nat) : Tabs .u32 (hf N 8) 8 = Nw N := Tabs_congr _ fun i h => by unfold hf; rw [if_pos h]
theorem hf_at (N : Nat) {k : Nat} (hk : k < 8) : (Tabs .u32 (hf N (k + 1)) 8)[k]? = some (.int .u32 ((dw N k : Nat) : Int)) := by
  rw [Tabs_get _ _ _ hk]
  unfold hf
  rw [if_pos (by omega)]
theorem hf_set (N : Nat) {k : Nat} (hk : k < 8) {v : Nat} (hv : v = dw N k / 2 + dw N (k + 1) % 2 * 2147483648) : (Tabs .u32 (hf N (k + 1)) 8).set k (.int .u32 ((v : Nat) : Int)) = Tabs .u32 (hf N k) 8 := by
  refine List.ext_getElem? fun j => ?_
  by_cases hj : j < 8
  · rw [List.getElem?_set, Tabs_get _ _ _ hj, Tabs_get _ _ _ hj]
    unfold hf
    by_cases e : k = j
    · subst e; rw [if_pos rfl, if_pos (by rw [Tabs_length]; exact hk), if_neg (by omega), hf_dig, hv]
    · rw [if_neg e]
      by_cases h2 : j < k
      · rw [if_pos h2, if_pos (by omega)]
      · rw [if_neg h2, if_neg (by omega)]
  · rw [List.getElem?_eq_none (by rw [List.length_set, Tabs_length]; omega), List.getElem?_eq_none (by rw [Tabs_length]; omega)]
end

section
set_option maxRecDepth 100000
set_option linter.unusedSimpArgs false
open Go.RowKit

theorem Nw_one1 : Nw 1 = [.int .u32 1, .int .u32 0, .int .u32 0, .int .u32 0, .int .u32 0, .int .u32 0, .int .u32 0, .int .u32 0] := Nw_small (n := 1) (by decide)

set_option maxHeartbeats 6400000 in
theorem powr_ref (A e : Nat) (hA : A < pp) (he : e < 2 ^ 256) (w : World) :
    Calls Tryd.prog 37 #[.agg (Nw A).toArray, .agg (By e 32).toArray] w fun e' w' => e' = .returned (.agg (Nw (A ^ e % pp)).toArray) ∧ Below w.heap.size w w' := by
  rw [← pwO_all he]
  have HMUL := Lib.hid (fun a b ha hb wx => mulr_ref a b ha hb wx)
  have HSM := Lib.hid (smallr_ref 1 (by decide))
  have HS4 := Lib.hid nw_info
  have HSB := Lib.hid by_info
  have hA0 := pwA_zero hA
  have hr1 := ((Row.new w (Nw A) 30).alloc (.cells (By e 32).toArray 22)).alloc (.cells (Nw 0).toArray 30)
  have hr2 := (Row.new1 w (.cells (Nw A).toArray 30) (By e 32) 22).alloc (.cells (Nw 0).toArray 30)
  have hr3 := Row.new2 w (.cells (Nw A).toArray 30) (.cells (By e 32).toArray 22) (Nw 0) 30
  have hb0 := Below.alloc3 w (.cells (Nw A).toArray 30) (.cells (By e 32).toArray 22) (.cells (Nw 0).toArray 30)
  have hs0 : (((w.alloc (.cells (Nw A).toArray 30)).alloc (.cells (By e 32).toArray 22)).alloc (.cells (Nw 0).toArray 30)).heap.size = w.heap.size + 1 + 1 + 1 := by simp
  rw [Nw_zero] at hr1 hr2 hr3 hb0 hs0
  have HR1 := Lib.hid hr1
  have HR2 := Lib.hid hr2
  have HR3 := Lib.hid hr3
  have HB0 := Lib.hid hb0
  have HS0 := Lib.hid hs0
  have HA0 := Lib.hid hA0
  clear hr1 hr2 hr3 hb0 hs0 hA0 hA he
  go_enter Tryd.func37, Tryd.ntmps37
  go_wp2_with fail
  refine (HSM.out _).mono ?_
  rintro e1 w1 ⟨rfl, hb1⟩
  have hsz := hb1.size
  rw [HS0.out] at hsz
  have hx1 := HR1.out.belowAll hb1
  have hn1 := HR2.out.belowAll hb1
  have hz1 := HR3.out.belowAll hb1
  have hw1 := HB0.out.trans (hb1.mono HB0.out.size)
  have hv0 := nw_zero_row w1
  have hv1 := hv0.setRow (Nw 1)
  have hx2 := (hx1.alloc (.cells #[.int .u32 0, .int .u32 0, .int .u32 0, .int .u32 0, .int .u32 0, .int .u32 0, .int .u32 0, .int .u32 0] 30)).setRowOther (k := w1.heap.size) (by omega) (Nw 1).toArray
  have hn2 := (hn1.alloc (.cells #[.int .u32 0, .int .u32 0, .int .u32 0, .int .u32 0, .int .u32 0, .int .u32 0, .int .u32 0, .int .u32 0] 30)).setRowOther (k := w1.heap.size) (by omega) (Nw 1).toArray
  have hz2 := (hz1.alloc (.cells #[.int .u32 0, .int .u32 0, .int .u32 0, .int .u32 0, .int .u32 0, .int .u32 0, .int .u32 0, .int .u32 0] 30)).setRowOther (k := w1.heap.size) (by omega) (Nw 1).toArray
  have hw2 := below_setRow (g := w1.heap.size) (hw1.alloc (by omega) (.cells #[.int .u32 0, .int .u32 0, .int .u32 0, .int .u32 0, .int .u32 0, .int .u32 0, .int .u32 0, .int .u32 0] 30)) (by omega) (Nw 1).toArray
  have HV0 := Lib.hid hv0
  have HV1 := Lib.hid hv1
  have HX2 := Lib.hid hx2
  have HN2 := Lib.hid hn2
  have HZ2 := Lib.hid hz2
  have HW2 := Lib.hid hw2
  have HSZ := Lib.hid hsz
  clear hb1 hsz hx1 hn1 hz1 hw1 hv0 hv1 hx2 hn2 hz2 hw2 HR1 HR2 HR3 HB0 HS0
  go_wp2_with (refine wpList_store_row rfl 30 (.tmp 5) (.tmp 7) rfl w1.heap.size _ rfl rfl 30 _ HV0.out (HS4.out _) (Nw_sz _ _) (Nw_one _) ?_)
  generalize (w1.alloc (.cells #[.int .u32 0, .int .u32 0, .int .u32 0, .int .u32 0, .int .u32 0, .int .u32 0, .int .u32 0, .int .u32 0] 30)).setRow w1.heap.size (Nw 1).toArray = W2 at *
  go_loopw [6] (fun i wr => ∃ k : Nat, k ≤ 256 ∧ i = .int .i64 (k : Int) ∧ Row wr w.heap.size 30 (Nw (pwA A k)) ∧ Row wr (w.heap.size + 1) 22 (By e 32) ∧ Row wr (w.heap.size + 1 + 1) 30 (Nw 0) ∧ Row wr w1.heap.size 30 (Nw (pwO A e k)) ∧ Below w.heap.size w wr) (fun i _ => 256 - (intOf i).toNat)
  case atStart =>
    refine ⟨0, Nat.zero_le _, rfl, by rw [HA0.out]; exact HX2.out, HN2.out, ?_, by rw [pwO_zero]; exact HV1.out, HW2.out⟩
    rw [Nw_zero]
    exact HZ2.out
  case round =>
    obtain ⟨k, hk6, rfl, ha, hb, hz, ho, hbe⟩ := hrel
    have hsz := HSZ.out
    by_cases hlt : k < 256
    · have hcb := hb.cell (By_get e 32 (k := k / 8) (by omega))
      have hbit := byt_bit e k
      have lb := byt_lt e (k / 8)
      have hsh : ((byt e (k / 8) : Nat) : Int) / 2 ^ (k % 8) = ((byt e (k / 8) / 2 ^ (k % 8) : Nat) : Int) := by simp
      have hd : Int.tdiv (k : Int) 8 = ((k / 8 : Nat) : Int) := by rw [Int.tdiv_eq_ediv_of_nonneg (by omega)]; omega
      have hm : Int.tmod (k : Int) 8 = ((k % 8 : Nat) : Int) := by rw [Int.tmod_eq_emod_of_nonneg (by omega)]; omega
      have hd' : (k : Int) / 8 = ((k / 8 : Nat) : Int) := by omega
      have hm' : (k : Int) % 8 = ((k % 8 : Nat) : Int) := by omega
      have h8 : k / 8 < 32 := by omega
      have him : k % 8 < 8 := Nat.mod_lt _ (by decide)
      have b0 : (0 : Int) ≤ (k : Int) := by omega
      have b6 : (k : Int) < 256 := by omega
      have hla := pwA_lt A k
      have hlo := pwO_lt A e k
      have hsq := pwA_sq A k
      have hw1 : IntKind.i64.wrap ((k / 8 : Nat) : Int) = ((k / 8 : Nat) : Int) := IntWalk.i64_in _ (by omega)
      have HA := Lib.hid ha
      have HB := Lib.hid hb
      have HZ := Lib.hid hz
      have HO := Lib.hid ho
      have HBE := Lib.hid hbe
      by_cases hone : e / 2 ^ k % 2 = 1
      · have hnext := pwO_one (A := A) hone
        rw [hone] at hbit
        have hq : ((((byt e (k / 8) : Nat) : Int) / 2 ^ (k % 8)) % 2 == 1) = true := by
          rw [hsh, beq_iff_eq]
          omega
        have hpos : (0 : Int) ≤ ((byt e (k / 8) : Nat) : Int) / 2 ^ (k % 8) := by rw [hsh]; exact Int.natCast_nonneg _
        clear hsh hbit hone
        generalize byt e (k / 8) = x8 at *
        generalize k / 8 = q at *
        generalize k % 8 = r at *
        have b2 : (0 : Int) ≤ (q : Int) := by omega
        have b3 : (q : Int) < 32 := by omega
        have b4 : (0 : Int) ≤ (r : Int) := by omega
        have b5 : (r : Int) < 64 := by omega
        have HNX := Lib.hid hnext
        have HSQ := Lib.hid hsq
        clear ha hb hz ho hbe hnext hsq
        generalize pwA A k = av at *
        generalize pwO A e k = ov at *
        go_wp2_with (first
          | (refine wpList_load_row rfl 30 (.tmp 5) rfl (w1.heap.size) rfl 30 _ (0, 0) _ HO.out Tryd.underlying30 rfl (HS4.out _) ?_)
          | (refine wpList_load_row rfl 30 (.tmp 2) rfl (w.heap.size) rfl 30 _ (0, 0) _ HA.out Tryd.underlying30 rfl (HS4.out _) ?_))
        refine (HMUL.out ov av hlo hla _).mono ?_
        rintro e2 w2 ⟨rfl, hb2⟩
        rw [HNX.out]
        have ho2 := HO.out.belowAll hb2
        have ha3 := (HA.out.belowAll hb2).setRowOther (k := w1.heap.size) (by omega) (Nw (pwO A e (k + 1))).toArray
        have hb3 := (HB.out.belowAll hb2).setRowOther (k := w1.heap.size) (by omega) (Nw (pwO A e (k + 1))).toArray
        have hz3 := (HZ.out.belowAll hb2).setRowOther (k := w1.heap.size) (by omega) (Nw (pwO A e (k + 1))).toArray
        have ho3 := ho2.setRow (Nw (pwO A e (k + 1)))
        have hbe3 := below_setRow (g := w1.heap.size) (HBE.out.trans (hb2.mono HBE.out.size)) (by omega) (Nw (pwO A e (k + 1))).toArray
        have HO2 := Lib.hid ho2
        have HA3 := Lib.hid ha3
        have HB3 := Lib.hid hb3
        have HZ3 := Lib.hid hz3
        have HO3 := Lib.hid ho3
        have HBE3 := Lib.hid hbe3
        clear ho2 ha3 hb3 hz3 ho3 hbe3 hb2
        go_wp2_with (first
          | (refine wpList_store_row rfl 30 (.tmp 5) (.tmp 23) rfl (w1.heap.size) _ rfl rfl 30 _ HO2.out (HS4.out _) (Nw_sz _ _) (Nw_one _) ?_)
          | (refine wpList_load_row rfl 30 (.tmp 2) rfl (w.heap.size) rfl 30 _ (0, 0) _ HA3.out Tryd.underlying30 rfl (HS4.out _) ?_))
        refine (HMUL.out av av hla hla _).mono ?_
        rintro e4 w4 ⟨rfl, hb4⟩
        rw [HSQ.out]
        have ha4 := HA3.out.belowAll hb4
        have hb5 := (HB3.out.belowAll hb4).setRowOther (k := w.heap.size) (by omega) (Nw (pwA A (k + 1))).toArray
        have hz5 := (HZ3.out.belowAll hb4).setRowOther (k := w.heap.size) (by omega) (Nw (pwA A (k + 1))).toArray
        have ho5 := (HO3.out.belowAll hb4).setRowOther (k := w.heap.size) (by omega) (Nw (pwA A (k + 1))).toArray
        have ha5 := ha4.setRow (Nw (pwA A (k + 1)))
        have hbe5 := below_setRow (g := w.heap.size) (HBE3.out.trans (hb4.mono HBE3.out.size)) (Nat.le_refl _) (Nw (pwA A (k + 1))).toArray
        have HA4 := Lib.hid ha4
        have HA5 := Lib.hid ha5
        have HB5 := Lib.hid hb5
        have HZ5 := Lib.hid hz5
        have HO5 := Lib.hid ho5
        have HBE5 := Lib.hid hbe5
        clear ha4 ha5 hb5 hz5 ho5 hbe5 hb4
        go_wp2_with (refine wpList_store_row rfl 30 (.tmp 2) (.tmp 26) rfl (w.heap.size) _ rfl rfl 30 _ HA4.out (HS4.out _) (Nw_sz _ _) (Nw_one _) ?_)
        go_roundw
        case rel => exact ⟨k + 1, by omega, by go_num, HA5.out, HB5.out, HZ5.out, HO5.out, HBE5.out⟩
        case measure => simp [intOf] <;> omega
      · have hnext := pwO_no (A := A) hone
        have hb0' : e / 2 ^ k % 2 = 0 := by omega
        rw [hb0'] at hbit
        have hq : ((((byt e (k / 8) : Nat) : Int) / 2 ^ (k % 8)) % 2 == 1) = false := by
          rw [hsh, beq_eq_false_iff_ne]
          omega
        have hpos : (0 : Int) ≤ ((byt e (k / 8) : Nat) : Int) / 2 ^ (k % 8) := by rw [hsh]; exact Int.natCast_nonneg _
        clear hsh hbit hone hb0'
        generalize byt e (k / 8) = x8 at *
        generalize k / 8 = q at *
        generalize k % 8 = r at *
        have b2 : (0 : Int) ≤ (q : Int) := by omega
        have b3 : (q : Int) < 32 := by omega
        have b4 : (0 : Int) ≤ (r : Int) := by omega
        have b5 : (r : Int) < 64 := by omega
        have HNX := Lib.hid hnext
        have HSQ := Lib.hid hsq
        clear ha hb hz ho hbe hnext hsq
        generalize pwA A k = av at *
        generalize pwO A e k = ov at *
        go_wp2_with (first
          | (refine wpList_load_row rfl 30 (.tmp 2) rfl (w.heap.size) rfl 30 _ (0, 0) _ HA.out Tryd.underlying30 rfl (HS4.out _) ?_))
        refine (HMUL.out av av hla hla _).mono ?_
        rintro e4 w4 ⟨rfl, hb4⟩
        rw [HSQ.out]
        have ha4 := HA.out.belowAll hb4
        have hb5 := (HB.out.belowAll hb4).setRowOther (k := w.heap.size) (by omega) (Nw (pwA A (k + 1))).toArray
        have hz5 := (HZ.out.belowAll hb4).setRowOther (k := w.heap.size) (by omega) (Nw (pwA A (k + 1))).toArray
        have ho5 := (HO.out.belowAll hb4).setRowOther (k := w.heap.size) (by omega) (Nw (pwA A (k + 1))).toArray
        have ha5 := ha4.setRow (Nw (pwA A (k + 1)))
        have hbe5 := below_setRow (g := w.heap.size) (HBE.out.trans (hb4.mono HBE.out.size)) (Nat.le_refl _) (Nw (pwA A (k + 1))).toArray
        have HA4 := Lib.hid ha4
        have HA5 := Lib.hid ha5
        have HB5 := Lib.hid hb5
        have HZ5 := Lib.hid hz5
        have HO5 := Lib.hid ho5
        have HBE5 := Lib.hid hbe5
        clear ha4 ha5 hb5 hz5 ho5 hbe5 hb4
        go_wp2_with (refine wpList_store_row rfl 30 (.tmp 2) (.tmp 26) rfl (w.heap.size) _ rfl rfl 30 _ HA4.out (HS4.out _) (Nw_sz _ _) (Nw_one _) ?_)
        go_roundw
        case rel => exact ⟨k + 1, by omega, by go_num, HA5.out, HB5.out, HZ5.out, by rw [HNX.out]; exact HO5.out, HBE5.out⟩
        case measure => simp [intOf] <;> omega
    · obtain rfl : k = 256 := by omega
      have HZ := Lib.hid hz
      have HO := Lib.hid ho
      have HBE := Lib.hid hbe
      clear ha hb hz ho hbe hsz HV0 HV1 HX2 HN2 HZ2 HW2
      go_wp2_with (first
        | (refine wpList_load_row rfl 30 (.tmp 5) rfl w1.heap.size rfl 30 _ (0, 0) _ HO.out Tryd.underlying30 rfl (HS4.out _) ?_)
        | (refine wpList_store_row rfl 30 (.tmp 4) (.tmp 27) rfl (w.heap.size + 1 + 1) _ rfl rfl 30 _ HZ.out (HS4.out _) (Nw_sz _ _) (Nw_one _) ?_))
      have hgot := setRow_heap wr (w.heap.size + 1 + 1) _ (Nw (pwO A e 256)).toArray _ _ HZ.out
      refine bodyPost_ret (results_cell_row (by rfl) _ _ (w.heap.size + 1 + 1) _ _ _ _ (by rfl) hgot Tryd.underlying30 rfl (HS4.out _)) rfl ?_
      exact ⟨rfl, below_setRow HBE.out (by omega) _⟩

theorem powr_nu (x : Lm) {e : Nat} (he : e < 256 ^ 32) (w : World) :
    Calls Tryd.prog 37 #[.agg (Nw (nu x)).toArray, .agg (By e 32).toArray] w fun e' w' => e' = .returned (.agg (Nw (nu (powL x e))).toArray) ∧ Below w.heap.size w w' := by
  have h2 : e < 2 ^ 256 := Nat.lt_of_lt_of_eq he (by decide)
  rw [nu_powP x h2]
  exact powr_ref (nu x) e (nu_pp x) h2 w

set_option maxHeartbeats 3200000 in
theorem invr_ref (A : Nat) (hA : A < pp) (w : World) :
    Calls Tryd.prog 35 #[.agg (Nw A).toArray] w fun e w' => e = .returned (.agg (Nw (A ^ (pp - 2) % pp)).toArray) ∧ Below w.heap.size w w' := by
  have hm := fun wx => minus_ref pp 2 pp_W8 (by decide) wx
  rw [dif8_sub (by decide), decide_eq_false (by decide)] at hm
  have HPW := Lib.hid (fun wx => powr_ref A (pp - 2) hA (by decide) wx)
  have HM := Lib.hid hm
  have HBY := Lib.hid (fun wx => rbytes_ref (pp - 2) wx)
  have HS4 := Lib.hid nw_info
  clear hm hA
  generalize pp - 2 = E at *
  have ha := (Row.new w (Nw A) 30).alloc (.cells #[.int .u32 0, .int .u32 0, .int .u32 0, .int .u32 0, .int .u32 0, .int .u32 0, .int .u32 0, .int .u32 0] 30)
  have hz := Row.new1 w (.cells (Nw A).toArray 30) (Nw 0) 30
  rw [Nw_zero] at hz
  have hb0 := Below.alloc2 w (.cells (Nw A).toArray 30) (.cells #[.int .u32 0, .int .u32 0, .int .u32 0, .int .u32 0, .int .u32 0, .int .u32 0, .int .u32 0, .int .u32 0] 30)
  go_enter Tryd.func35, Tryd.ntmps35
  go_wp2_with fail
  refine (P_any _).mono ?_
  rintro e1 w1 ⟨rfl, hb1⟩
  go_wp2_with fail
  refine (smallr_ref 2 (by decide) _).mono ?_
  rintro e2 w2 ⟨rfl, hb2⟩
  go_wp2_with fail
  refine (HM.out _).mono ?_
  rintro e3 w3 ⟨rfl, hb3⟩
  have ha3 := ((ha.belowAll hb1).belowAll hb2).belowAll hb3
  have hz3 := ((hz.belowAll hb1).belowAll hb2).belowAll hb3
  have k1 := hb0.trans (hb1.mono hb0.size)
  have k2 := k1.trans (hb2.mono k1.size)
  have hw3 := k2.trans (hb3.mono k2.size)
  have hl3 := hz3.lt
  have hn := nw_zero_row w3
  have hE := hn.setRow (Nw E)
  have ha4 := (ha3.alloc (.cells #[.int .u32 0, .int .u32 0, .int .u32 0, .int .u32 0, .int .u32 0, .int .u32 0, .int .u32 0, .int .u32 0] 30)).setRowOther (k := w3.heap.size) (by omega) (Nw E).toArray
  have hz4 := (hz3.alloc (.cells #[.int .u32 0, .int .u32 0, .int .u32 0, .int .u32 0, .int .u32 0, .int .u32 0, .int .u32 0, .int .u32 0] 30)).setRowOther (k := w3.heap.size) (by omega) (Nw E).toArray
  have hw4 := below_setRow (g := w3.heap.size) (hw3.alloc hw3.size (.cells #[.int .u32 0, .int .u32 0, .int .u32 0, .int .u32 0, .int .u32 0, .int .u32 0, .int .u32 0, .int .u32 0] 30)) hw3.size (Nw E).toArray
  have HN := Lib.hid hn
  have HA4 := Lib.hid ha4
  have HZ4 := Lib.hid hz4
  have HE := Lib.hid hE
  have HW4 := Lib.hid hw4
  clear ha hz hb0 hb1 hb2 hb3 ha3 hz3 k1 k2 hw3 hn hE ha4 hz4 hw4
  go_wp2_with (refine wpList_store_row rfl 30 (.tmp 3) (.tmp 9) rfl w3.heap.size _ rfl rfl 30 _ HN.out (HS4.out _) (Nw_sz _ _) (Nw_one _) ?_)
  have ha5 := HA4.out
  have hz5 := HZ4.out
  have hE5 := HE.out
  have hw5 := HW4.out
  clear HN HA4 HZ4 HE HW4
  generalize (w3.alloc (.cells #[.int .u32 0, .int .u32 0, .int .u32 0, .int .u32 0, .int .u32 0, .int .u32 0, .int .u32 0, .int .u32 0] 30)).setRow w3.heap.size (Nw E).toArray = W5 at *
  refine wp_flat_store (aD := ?aD1) (S := fun w' => Below W5.heap.size W5 w') (s := 4) (T := 30) (T' := 30) (g := w.heap.size + 1) (z := Nw 0) (c := Nw (A ^ E % pp)) (x := .tmp 2) (y := .tmp 14)
    (vs := [(0, .agg (Nw A).toArray), (1, .agg (Nw E).toArray), (2, .agg (By E 32).toArray), (3, .agg (Nw (A ^ E % pp)).toArray)]) (by kernel_rfl) ((Below.refl _ _).drew) (fun _ _ h k => S_trans h k) ?hD1 ?hk1 rfl rfl rfl rfl ?e1 ?e2 (fun w' h => hz5.belowAll h) (HS4.out _) (Nw_sz _ _) (Nw_one _) ?h1
  case hD1 =>
    refine .step (some 11) rfl rfl (by kernel_rfl) (Gives.load_row 30 (.tmp 1) rfl (w.heap.size) rfl 30 _ (fun w' h => ha5.belowAll h) Tryd.underlying30 rfl (HS4.out _)) ?_
    simp only [Act.put, List.setIfInBounds_toArray, List.set_cons_zero, List.set_cons_succ]
    refine .step (some 12) rfl rfl (by kernel_rfl) (Gives.load_row 30 (.tmp 3) rfl (w3.heap.size) rfl 30 _ (fun w' h => hE5.belowAll h) Tryd.underlying30 rfl (HS4.out _)) ?_
    simp only [Act.put, List.setIfInBounds_toArray, List.set_cons_zero, List.set_cons_succ]
    refine .step (some 13) rfl rfl (by kernel_rfl) (Gives.call (args := [.agg (Nw E).toArray]) rfl Tryd.func17 (by kernel_rfl) (by kernel_rfl) rfl (fun w' _ => HBY.out w')) ?_
    simp only [Act.put, List.setIfInBounds_toArray, List.set_cons_zero, List.set_cons_succ]
    refine .step (some 14) rfl rfl (by kernel_rfl) (Gives.call (args := [.agg (Nw A).toArray, .agg (By E 32).toArray]) rfl Tryd.func37 (by kernel_rfl) (by kernel_rfl) rfl (fun w' _ => HPW.out w')) ?_
    simp only [Act.put, List.setIfInBounds_toArray, List.set_cons_zero, List.set_cons_succ]
    exact .nil
  case hk1 => kernel_rfl
  case e1 => rfl
  case e2 => rfl
  case h1 =>
  intro w6 hb6
  have hz6 := hz5.belowAll hb6
  have hw6 := hw5.trans (hb6.mono hw5.size)
  have hgot := setRow_heap w6 (w.heap.size + 1) _ (Nw (A ^ E % pp)).toArray _ _ hz6
  have HGOT := Lib.hid hgot
  have HW6 := Lib.hid hw6
  clear hz6 hw6 hgot hb6 ha5 hz5 hE5 hw5
  go_wp2_with fail
  refine bodyPost_ret (results_cell_row (by rfl) _ _ (w.heap.size + 1) _ _ _ _ (by rfl) HGOT.out Tryd.underlying30 rfl (HS4.out _)) rfl ?_
  exact ⟨rfl, below_setRow HW6.out (by omega) _⟩
theorem invr_nu (x : Lm) (w : World) :
    Calls Tryd.prog 35 #[.agg (Nw (nu x)).toArray] w fun e' w' => e' = .returned (.agg (Nw (nu (invL x))).toArray) ∧ Below w.heap.size w w' := by
  rw [nu_invP]
  exact invr_ref (nu x) (nu_pp x) w
end

section
set_option maxRecDepth 100000
set_option linter.unusedSimpArgs false
open Go.RowKit

set_option maxHeartbeats 6400000 in
theorem shift_ref (A n : Nat) (hA : A < W8) (hn : n < 64) (w : World) :
    Calls Tryd.prog 76 #[.agg (Nw A).toArray, .int .i64 (n : Int)] w fun e w' => e = .returned (.agg (Nw (A / 2 ^ n)).toArray) ∧ Below w.heap.size w w' := by
  have HS4 := Lib.hid nw_info
  have HN := Lib.hid hn
  have hlt : ∀ k, A / 2 ^ k < W8 := fun k => Nat.lt_of_le_of_lt (Nat.div_le_self _ _) hA
  have HLT := Lib.hid hlt
  have bn : (0 : Int) ≤ (n : Int) := by omega
  clear hA hn hlt
  go_enter Tryd.func76, Tryd.ntmps76
  go_wp2_with fail
  go_loopw [5] (fun i wr => ∃ k : Nat, k ≤ n ∧ i = .int .i64 (k : Int) ∧ Row wr w.heap.size 30 (Nw (A / 2 ^ k)) ∧ Row wr (w.heap.size + 1) 30 (Nw 0) ∧ Below w.heap.size w wr) (fun i _ => n - (intOf i).toNat)
  case atStart =>
    refine ⟨0, Nat.zero_le _, rfl, ?_, ?_, Below.alloc2 _ _ _⟩
    · rw [Nat.pow_zero, Nat.div_one]
      exact (Row.new w _ _).alloc _
    · rw [Nw_zero]
      exact Row.new1 w _ _ _
  case round =>
    obtain ⟨k, hkn, rfl, ha, hz, hbe⟩ := hrel
    by_cases hlt : k < n
    · have hhalf : A / 2 ^ k / 2 = A / 2 ^ (k + 1) := by rw [Nat.div_div_eq_div_mul, Nat.pow_succ]
      have hM : A / 2 ^ k < W8 := HLT.out k
      have HH := Lib.hid hhalf.symm
      have hk64 : (k : Int) < 64 := by have := HN.out; omega
      clear hhalf
      generalize A / 2 ^ k = M at *
      have b0 : (0 : Int) ≤ (k : Int) := by omega
      have hltI : (k : Int) < (n : Int) := by omega
      have HA := Lib.hid ha
      have HZ := Lib.hid hz
      have HBE := Lib.hid hbe
      have HM := Lib.hid hM
      clear ha hz hbe hM
      go_wp2_with fail
      obtain ⟨wo, rfl⟩ : ∃ wo, wo = wr := ⟨_, rfl⟩
      go_loopw [6, 7] (fun r i wr => ∃ j : Nat, j ≤ 8 ∧ i = .int .i64 ((j : Int) - 1) ∧ r = .int .u32 ((dw M j % 2 : Nat) : Int) ∧ Row wr w.heap.size 30 (Tabs .u32 (hf M j) 8) ∧ Row wr (w.heap.size + 1) 30 (Nw 0) ∧ Below w.heap.size w wr) (fun _ i _ => (intOf i + 1).toNat)
      case atStart => exact ⟨8, Nat.le_refl _, rfl, by rw [dw_of_lt (show M < 4294967296 ^ 8 from HM.out)]; rfl, by rw [hf_none]; exact HA.out, HZ.out, HBE.out⟩
      case round =>
        obtain ⟨j, hj8, rfl, rfl, ha, hz, hbe⟩ := hrel
        by_cases hj : j = 0
        · subst hj
          rw [hf_all] at ha
          have HA2 := Lib.hid ha
          have HZ2 := Lib.hid hz
          have HBE2 := Lib.hid hbe
          clear ha hz hbe
          rw [show (((0 : Nat) : Int) - 1) = -1 from rfl]
          generalize dw M 0 % 2 = rr at *
          go_wp2_with fail
          go_roundw
          case rel => exact ⟨k + 1, by omega, by go_num, by rw [HH.out]; exact HA2.out, HZ2.out, HBE2.out⟩
          case measure => simp [intOf] <;> omega
        · obtain ⟨i, rfl⟩ : ∃ i, j = i + 1 := ⟨j - 1, by omega⟩
          have hii : (((i + 1 : Nat) : Int) - 1) = (i : Int) := by omega
          rw [hii]
          have hi8 : i < 8 := by omega
          have hca := ha.cell (hf_at M hi8)
          have hfree := ha.free i
          have hset := hf_set M hi8 rfl
          have hst := ha.set i (.int .u32 ((dw M i / 2 + dw M (i + 1) % 2 * 2147483648 : Nat) : Int))
          rw [hset] at hst
          have hz2 := hz.setCell (p := ⟨w.heap.size, i, none⟩) (by show w.heap.size + 1 ≠ w.heap.size; omega) (.int .u32 ((dw M i / 2 + dw M (i + 1) % 2 * 2147483648 : Nat) : Int))
          have hbe2 := hbe.setCell (p := ⟨w.heap.size, i, none⟩) (Nat.le_refl _) (.int .u32 ((dw M i / 2 + dw M (i + 1) % 2 * 2147483648 : Nat) : Int))
          have lx := dw_lt M i
          have hr : dw M (i + 1) % 2 ≤ 1 := by omega
          have hrest : ((dw M i : Nat) : Int) % 2 = ((dw M i % 2 : Nat) : Int) := by omega
          generalize hv : dw M i / 2 + dw M (i + 1) % 2 * 2147483648 = v at *
          generalize hmm : dw M i % 2 = m2 at *
          generalize dw M (i + 1) % 2 = r at *
          generalize hxx : dw M i = x at *
          have HXX := Lib.hid hxx
          clear hxx
          have b0i : (0 : Int) ≤ (i : Int) := by omega
          have b1i : (i : Int) < 8 := by omega
          have hadd : (x : Int) / 2 + (r : Int) * 2147483648 = ((v : Nat) : Int) := by omega
          have HST := Lib.hid hst
          have HZ2 := Lib.hid hz2
          have HBE2 := Lib.hid hbe2
          have HREST := Lib.hid hrest
          have HADD := Lib.hid hadd
          have HM2 := Lib.hid hmm
          clear ha hz hbe hset hst hz2 hbe2 hrest hadd hv hii hmm
          go_wp2_with fail
          rw [HADD.out, HREST.out]
          go_roundw
          case rel => exact ⟨i, by omega, rfl, by rw [HXX.out, HM2.out], HST.out, HZ2.out, HBE2.out⟩
          case measure => simp [intOf] <;> omega
    · obtain rfl : k = n := by omega
      have HA := Lib.hid ha
      have HZ := Lib.hid hz
      have HBE := Lib.hid hbe
      clear ha hz hbe
      go_wp2_with (first
        | (refine wpList_load_row rfl 30 (.tmp 2) rfl w.heap.size rfl 30 _ (0, 0) _ HA.out Tryd.underlying30 rfl (HS4.out _) ?_)
        | (refine wpList_store_row rfl 30 (.tmp 4) (.tmp 32) rfl (w.heap.size + 1) _ rfl rfl 30 _ HZ.out (HS4.out _) (Nw_sz _ _) (Nw_one _) ?_))
      have hgot := setRow_heap wr (w.heap.size + 1) _ (Nw (A / 2 ^ k)).toArray _ _ HZ.out
      refine bodyPost_ret (results_cell_row (by rfl) _ _ (w.heap.size + 1) _ _ _ _ (by rfl) hgot Tryd.underlying30 rfl (HS4.out _)) rfl ?_
      exact ⟨rfl, below_setRow HBE.out (by omega) _⟩
end

end Go.Proofs.YthpbipebpaeagaaDoor
