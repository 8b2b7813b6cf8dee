/- field's exponent, Pow, Invert. -/
import Derived.Test.YthpbipebpaeagaaDoorPowM
import Derived.Test.YthpbipebpaeagaaDoorMulF
import Derived.Test.YthpbipebpaeagaaDoorOdd
namespace Go.Proofs.YthpbipebpaeagaaDoor
set_option maxRecDepth 100000
set_option linter.unusedSimpArgs false
open Go.RowKit

/-- An exponent's bytes, as far as they are written. -/
def exF (lo k j : Nat) : Nat := if j = 0 then lo else if j < k then 255 else 0
theorem exF_set (lo : Nat) {k : Nat} (h0 : 0 < k) (hk : k < 32) : (Tabs .u8 (exF lo k) 32).set k (.int .u8 ((255 : Nat) : Int)) = Tabs .u8 (exF lo (k + 1)) 32 := by
  refine List.ext_getElem? fun j => ?_
  by_cases hj : j < 32
  · rw [List.getElem?_set, Tabs_get _ _ _ hj, Tabs_get _ _ _ hj]
    unfold exF
    by_cases e : k = j
    · subst e; rw [if_pos rfl, if_pos (by rw [Tabs_length]; exact hk), if_neg (by omega), if_pos (by omega)]
    · rw [if_neg e]
      by_cases h1 : j = 0
      · rw [if_pos h1, if_pos h1]
      · rw [if_neg h1, if_neg h1]
        by_cases h2 : j < k
        · rw [if_pos h2, if_pos (by omega)]
        · rw [if_neg h2, if_neg (by omega)]
  · rw [List.getElem?_eq_none (by rw [List.length_set, Tabs_length]; omega), List.getElem?_eq_none (by rw [Tabs_length]; omega)]
theorem exF_end (lo hi E : Nat) (h : ∀ j, j < 32 → (if j = 31 then hi else exF lo 31 j) = byt E j) : (Tabs .u8 (exF lo 31) 32).set 31 (.int .u8 ((hi : Nat) : Int)) = By E 32 := by
  refine By_ext E 32 (by rw [List.length_set, Tabs_length]) fun j hj => ?_
  rw [List.getElem?_set, ← h j hj]
  by_cases e : 31 = j
  · subst e; rw [if_pos rfl, if_pos (by rw [Tabs_length]; decide), if_pos rfl]
  · rw [if_neg e, if_neg (fun x => e x.symm), Tabs_get _ _ _ hj]
theorem ex_build (lo : Nat) (w : World) : (Instr.build 22 #[(0, .int .u8 (lo : Int))]).run Tryd.prog w = .ok (.agg (Tabs .u8 (exF lo 1) 32).toArray) w := run_build w 22 _ _ (by kernel_rfl)
theorem tb_info (f : Nat → Nat) : (Tryd.prog.info? 22).map (·.size) = some (Tabs .u8 f 32).toArray.size := by rw [List.size_toArray, Tabs_length]; kernel_rfl

set_option maxHeartbeats 1600000 in
theorem exp_any (lo hi E : Nat) (h : ∀ j, j < 32 → (if j = 31 then hi else exF lo 31 j) = byt E j) (w : World) :
    Calls Tryd.prog 71 #[.int .u8 (lo : Int), .int .u8 (hi : Int)] w fun e w' => e = .returned (.agg (By E 32).toArray) ∧ Below w.heap.size w w' := by
  have HEND := Lib.hid (exF_end lo hi E h)
  have HSB := Lib.hid by_info
  have HTB := Lib.hid tb_info
  have HBD := Lib.hid (ex_build lo)
  have hz0 := Row.new1 w (.cells (List.replicate 32 (.int .u8 0)).toArray 22) (List.replicate 32 (.int .u8 0)) 22
  have hO : (List.replicate 32 (Value.int .u8 0)).toArray.size = (Tabs .u8 (exF lo 1) 32).toArray.size := by rw [List.size_toArray, List.size_toArray, Tabs_length, List.length_replicate]
  have HZ0 := Lib.hid hz0
  have HO := Lib.hid hO
  clear h hz0 hO
  go_enter Tryd.func71, Tryd.ntmps71
  go_wp2_with (first
    | (refine wpList_build1 rfl 22 (.tmp 7) rfl (.int .u8 (lo : Int)) (.agg (Tabs .u8 (exF lo 1) 32).toArray) rfl (HBD.out _) ?_)
    | (refine wpList_store_row rfl 22 (.tmp 5) (.tmp 8) rfl (w.heap.size + 1) _ rfl rfl 22 _ HZ0.out (HTB.out _) HO.out (Tabs_one _ _ _) ?_))
  have hrow0 := HZ0.out.setRow (Tabs .u8 (exF lo 1) 32)
  have hres0 : Row (((w.alloc (.cells (List.replicate 32 (.int .u8 0)).toArray 22)).alloc (.cells (List.replicate 32 (.int .u8 0)).toArray 22)).setRow (w.heap.size + 1) (Tabs .u8 (exF lo 1) 32).toArray) w.heap.size 22 (List.replicate 32 (.int .u8 0)) :=
    ((Row.new w (List.replicate 32 (.int .u8 0)) 22).alloc _).setRowOther (by omega) _
  have hb0 := below_setRow (g := w.heap.size + 1) (Below.alloc2 w (.cells (List.replicate 32 (.int .u8 0)).toArray 22) (.cells (List.replicate 32 (.int .u8 0)).toArray 22)) (by omega) (Tabs .u8 (exF lo 1) 32).toArray
  have HROW0 := Lib.hid hrow0
  have HRES0 := Lib.hid hres0
  have HB0 := Lib.hid hb0
  clear hrow0 hres0 hb0
  go_loopw [6] (fun i wr => ∃ k : Nat, 1 ≤ k ∧ k ≤ 31 ∧ i = .int .i64 k ∧ Row wr (w.heap.size + 1) 22 (Tabs .u8 (exF lo k) 32) ∧ Row wr w.heap.size 22 (List.replicate 32 (.int .u8 0)) ∧ Below w.heap.size w wr) (fun i _ => 31 - (intOf i).toNat)
  case atStart => exact ⟨1, Nat.le_refl _, by decide, rfl, HROW0.out, HRES0.out, HB0.out⟩
  case round =>
    obtain ⟨k, hk1, hkn, rfl, hrow, hres, hbe⟩ := hrel
    by_cases hlt : k < 31
    · have hold := hrow.cell (Tabs_get .u8 (exF lo k) 32 (j := k) (by omega))
      have hfree := hrow.free k
      have hset := hrow.set k (.int .u8 ((255 : Nat) : Int))
      rw [exF_set lo (by omega) (by omega)] at hset
      have hres2 := hres.setCell (p := ⟨w.heap.size + 1, k, none⟩) (by show _ ≠ w.heap.size + 1; omega) (.int .u8 ((255 : Nat) : Int))
      have hb2 := hbe.setCell (p := ⟨w.heap.size + 1, k, none⟩) (by simp) (.int .u8 ((255 : Nat) : Int))
      generalize exF lo k k = old at *
      have b0 : (0 : Int) ≤ (k : Int) := by omega
      have b1 : (k : Int) < 31 := by omega
      have HSET := Lib.hid hset
      have HRES2 := Lib.hid hres2
      have HB2 := Lib.hid hb2
      clear hrow hres hbe hset hres2 hb2
      go_wp2_with fail
      go_roundw
      case rel => exact ⟨k + 1, by omega, by omega, by go_num, HSET.out, HRES2.out, HB2.out⟩
      case measure => simp [intOf]; omega
    · obtain rfl : k = 31 := by omega
      have hold := hrow.cell (Tabs_get .u8 (exF lo 31) 32 (j := 31) (by omega))
      have hfree := hrow.free 31
      have hset := hrow.set 31 (.int .u8 ((hi : Nat) : Int))
      rw [HEND.out] at hset
      have hres2 := hres.setCell (p := ⟨w.heap.size + 1, 31, none⟩) (by show _ ≠ w.heap.size + 1; omega) (.int .u8 ((hi : Nat) : Int))
      have hb2 := hbe.setCell (p := ⟨w.heap.size + 1, 31, none⟩) (by simp) (.int .u8 ((hi : Nat) : Int))
      have hO2 : (List.replicate 32 (Value.int .u8 0)).toArray.size = (By E 32).toArray.size := by rw [List.size_toArray, List.size_toArray, By_length, List.length_replicate]
      generalize exF lo 31 31 = old at *
      have HSET := Lib.hid hset
      have HRES2 := Lib.hid hres2
      have HB2 := Lib.hid hb2
      have HO2 := Lib.hid hO2
      clear hrow hres hbe hset hres2 hb2 hO2
      go_wp2_with (first
        | (refine wpList_load_row rfl 22 (.tmp 5) rfl (w.heap.size + 1) rfl 22 _ (0, 0) _ HSET.out Tryd.underlying22 rfl (HSB.out _) ?_)
        | (refine wpList_store_row rfl 22 (.tmp 4) (.tmp 17) rfl w.heap.size _ rfl rfl 22 _ HRES2.out (HSB.out _) HO2.out (By_one _ _) ?_))
      have hgot := setRow_heap (wr.setCell ⟨w.heap.size + 1, 31, none⟩ (.int .u8 ((hi : Nat) : Int))) w.heap.size _ (By E 32).toArray _ _ HRES2.out
      refine bodyPost_ret (results_cell_row (by rfl) _ _ w.heap.size _ _ _ _ (by rfl) hgot Tryd.underlying22 rfl (HSB.out _)) rfl ?_
      exact ⟨rfl, below_setRow HB2.out (Nat.le_refl _) _⟩

/-- The call that one bit makes. -/
theorem step_any (b : Bool) {x o : Lm} (hx : x.ok) (ho : o.ok) (g1 g2 : Nat) (w : World) (h1 : Row w g1 26 (EL o)) (h2 : Row w g2 26 (EL x)) (hne : g1 ≠ g2) :
    Calls Tryd.prog 73 #[.bool b, .pointer (some ⟨g1, 0, none⟩), .pointer (some ⟨g2, 0, none⟩)] w fun e w' => e = .returned (.tuple #[]) ∧ Row w' g1 26 (EL (if b then mulL (mulL o o) x else mulL o o)) ∧ Only (fun k => k = g1) w w' := by
  have HM1 := Lib.hid (mul_any ho ho)
  have HM2 := Lib.hid (mul_any (mulL_ok ho ho) hx)
  have HS4 := Lib.hid el_info
  have H1 := Lib.hid h1
  have H2 := Lib.hid h2
  clear h1 h2
  go_enter Tryd.func73, Tryd.ntmps73
  go_wp2_with (refine wpList_load_row rfl 26 (.tmp 1) rfl g1 rfl 26 _ (0, 0) _ H1.out Tryd.underlying26 rfl (HS4.out _) ?_)
  refine (HM1.out _).mono ?_
  rintro e w1 ⟨rfl, hb1⟩
  have hr1 := H1.out.belowAll hb1
  have hs1 := hr1.setRow (EL (mulL o o))
  have hx1 := (H2.out.belowAll hb1).setRowOther (Ne.symm hne) (EL (mulL o o)).toArray
  have ho1 : Only (fun k => k = g1) w (w1.setRow g1 (EL (mulL o o)).toArray) := by
    have hz := hb1.size
    have hsz : (w1.setRow g1 (EL (mulL o o)).toArray).heap.size = w1.heap.size := by simp
    exact ⟨hb1.os, hb1.tape, hb1.output, by rw [hsz]; exact hz, fun k hk hn => (setRow_other w1 g1 k _ (fun e => hn e)).trans (hb1.block k hk)⟩
  have HR1 := Lib.hid hr1
  have HS1 := Lib.hid hs1
  have HX1 := Lib.hid hx1
  have HO1 := Lib.hid ho1
  clear hb1 hr1 hs1 hx1 ho1
  cases b with
  | false =>
    go_wp2_with (refine wpList_store_row rfl 26 (.tmp 1) (.tmp 6) rfl g1 _ rfl rfl 26 _ HR1.out (HS4.out _) (EL_sz _ _) (EL_one _) ?_)
    go_end0
    exact ⟨rfl, HS1.out, HO1.out⟩
  | true =>
    go_wp2_with (first
      | (refine wpList_store_row rfl 26 (.tmp 1) (.tmp 6) rfl g1 _ rfl rfl 26 _ HR1.out (HS4.out _) (EL_sz _ _) (EL_one _) ?_)
      | (refine wpList_load_row rfl 26 (.tmp 1) rfl g1 rfl 26 _ (0, 0) _ HS1.out Tryd.underlying26 rfl (HS4.out _) ?_)
      | (refine wpList_load_row rfl 26 (.tmp 2) rfl g2 rfl 26 _ (0, 0) _ HX1.out Tryd.underlying26 rfl (HS4.out _) ?_))
    refine (HM2.out _).mono ?_
    rintro e w2 ⟨rfl, hb2⟩
    have HR2 := Lib.hid (HS1.out.belowAll hb2)
    have HO2 := Lib.hid (HO1.out.trans (T := fun _ => False) ⟨hb2.os, hb2.tape, hb2.output, hb2.size, fun k hk _ => hb2.block k hk⟩ (fun _ _ f => f.elim))
    clear hb2
    go_wp2_with (refine wpList_store_row rfl 26 (.tmp 1) (.tmp 10) rfl g1 _ rfl rfl 26 _ HR2.out (HS4.out _) (EL_sz _ _) (EL_one _) ?_)
    go_end0
    refine ⟨rfl, HR2.out.setRow _, ?_⟩
    have ho := HO2.out
    have hsz : (w2.setRow g1 (EL (mulL (mulL o o) x)).toArray).heap.size = w2.heap.size := by simp
    exact ⟨ho.os, ho.tape, ho.output, by rw [hsz]; exact ho.size, fun k hk hn => (setRow_other w2 g1 k _ (fun e => hn e)).trans (ho.block k hk hn)⟩

/-- One bit of bytes. -/
theorem byt_bit (N i : Nat) : byt N (i / 8) / 2 ^ (i % 8) % 2 = N / 2 ^ i % 2 := by
  unfold byt
  have e : (256 : Nat) = 2 ^ (i % 8) * (2 * 2 ^ (7 - i % 8)) := by
    rw [show (2 : Nat) * 2 ^ (7 - i % 8) = 2 ^ (1 + (7 - i % 8)) by rw [Nat.pow_add], ← Nat.pow_add, show i % 8 + (1 + (7 - i % 8)) = 8 by omega]
  rw [e, Nat.mod_mul_right_div_self, Nat.mod_mul_right_mod, Nat.div_div_eq_div_mul, ← Nat.pow_add, show 8 * (i / 8) + i % 8 = i by omega]

set_option maxHeartbeats 3200000 in
theorem down_any (N : Nat) {x o : Lm} (hx : x.ok) (ho : o.ok) (g1 g2 : Nat) (w : World) (h1 : Row w g1 26 (EL o)) (h2 : Row w g2 26 (EL x)) (hne : g1 ≠ g2) :
    Calls Tryd.prog 72 #[.agg (By N 32).toArray, .func (.func 73) #[] #[.pointer (some ⟨g1, 0, none⟩), .pointer (some ⟨g2, 0, none⟩)]] w fun e w' => e = .returned (.tuple #[]) ∧ Row w' g1 26 (EL (pwS x N o 256)) ∧ Only (fun k => k = g1) w w' := by
  have hl1 := h1.lt
  have hl2 := h2.lt
  have HOK := Lib.hid (pwS_ok N hx ho)
  have H1 := Lib.hid h1
  have H2 := Lib.hid h2
  clear h1 h2
  go_enter Tryd.func72, Tryd.ntmps72
  go_wp2_with fail
  go_loopw [4] (fun i wr => ∃ k : Nat, k ≤ 256 ∧ i = .int .i64 (255 - (k : Int)) ∧ Row wr w.heap.size 22 (By N 32) ∧ Row wr g1 26 (EL (pwS x N o k)) ∧ Row wr g2 26 (EL x) ∧ Only (fun k => k = g1) w wr) (fun i _ => (intOf i + 1).toNat)
  case atStart => exact ⟨0, Nat.zero_le _, rfl, Row.new w _ _, H1.out.alloc _, H2.out.alloc _, (Only.refl _ w).alloc _⟩
  case round =>
    obtain ⟨k, hkn, rfl, hb, h1, h2, ho1⟩ := hrel
    by_cases hlt : k < 256
    · obtain ⟨i, hi⟩ : ∃ i : Nat, i = 255 - k := ⟨_, rfl⟩
      have hii : (255 - (k : Int)) = (i : Int) := by omega
      rw [hii]
      have hi8 : i / 8 < 32 := by omega
      have hcb := hb.cell (By_get N 32 hi8)
      have hbit := byt_bit N i
      have hnext : pwS x N o (k + 1) = if decide (N / 2 ^ i % 2 = 1) then mulL (mulL (pwS x N o k) (pwS x N o k)) x else mulL (pwS x N o k) (pwS x N o k) := by
        rw [hi]
        show (if N / 2 ^ (255 - k) % 2 = 1 then _ else _) = _
        simp only [decide_eq_true_eq]
      have hst := fun b wx hr1 hr2 => step_any b hx (HOK.out k) g1 g2 wx hr1 hr2 hne
      have lb := byt_lt N (i / 8)
      have hsh : ((byt N (i / 8) : Nat) : Int) / 2 ^ (i % 8) = ((byt N (i / 8) / 2 ^ (i % 8) : Nat) : Int) := by simp
      have hsl : byt N (i / 8) / 2 ^ (i % 8) < 256 := Nat.lt_of_le_of_lt (Nat.div_le_self _ _) lb
      have hand := and_one (byt N (i / 8) / 2 ^ (i % 8)) hsl
      rw [hbit] at hand
      have heq : (((N / 2 ^ i % 2 : Nat) : Int) == 1) = decide (N / 2 ^ i % 2 = 1) := by
        rw [Bool.eq_iff_iff, beq_iff_eq, decide_eq_true_iff]
        omega
      have hd : Int.tdiv (i : Int) 8 = ((i / 8 : Nat) : Int) := by rw [Int.tdiv_eq_ediv_of_nonneg (by omega)]; omega
      have hm : Int.tmod (i : Int) 8 = ((i % 8 : Nat) : Int) := by rw [Int.tmod_eq_emod_of_nonneg (by omega)]; omega
      have hd' : (i : Int) / 8 = ((i / 8 : Nat) : Int) := by omega
      have hm' : (i : Int) % 8 = ((i % 8 : Nat) : Int) := by omega
      have him : i % 8 < 8 := Nat.mod_lt _ (by decide)
      generalize decide (N / 2 ^ i % 2 = 1) = bb at *
      generalize N / 2 ^ i % 2 = bt at *
      generalize byt N (i / 8) = x8 at *
      generalize i / 8 = q at *
      generalize i % 8 = r at *
      have b0 : (0 : Int) ≤ (i : Int) := by omega
      have b2 : (0 : Int) ≤ (q : Int) := by omega
      have b3 : (q : Int) < 32 := by omega
      have b4 : (0 : Int) ≤ (r : Int) := by omega
      have b5 : (r : Int) < 64 := by omega
      have b6 : (i : Int) ≤ 255 := by omega
      have hw1 : IntKind.i64.wrap ((q : Nat) : Int) = (q : Int) := IntWalk.i64_in _ (by omega)
      have HII := Lib.hid hii
      have HI := Lib.hid hi
      have HB := Lib.hid hb
      have HR1 := Lib.hid h1
      have HR2 := Lib.hid h2
      have HO1 := Lib.hid ho1
      have HST := Lib.hid hst
      have HNX := Lib.hid hnext
      have HSH := Lib.hid hsh
      have HAND := Lib.hid hand
      have HEQ := Lib.hid heq
      clear hii hi hb h1 h2 ho1 hst hnext hsh hand heq hbit hsl
      go_wp2_with fail
      rw [HSH.out, HAND.out, HEQ.out]
      refine (HST.out bb wr HR1.out HR2.out).mono ?_
      rintro e w1 ⟨rfl, hr1, ho2⟩
      have hb1 := HB.out.only ho2 (by omega)
      have hx1 := HR2.out.only ho2 (Ne.symm hne)
      have ho3 := HO1.out.trans ho2 (fun k _ e => e)
      rw [← HNX.out] at hr1
      have HB1 := Lib.hid hb1
      have HX1 := Lib.hid hx1
      have HO3 := Lib.hid ho3
      have HRR := Lib.hid hr1
      clear hb1 hx1 ho3 hr1 ho2 hd hm hd' hm' hw1 hcb
      go_wp2_with fail
      go_roundw
      case rel =>
        refine ⟨k + 1, by omega, ?_, HB1.out, HRR.out, HX1.out, HO3.out⟩
        congr 1
        have := HII.out
        omega
      case measure => simp [intOf] <;> omega
    · obtain rfl : k = 256 := by omega
      rw [show (255 - ((256 : Nat) : Int)) = -1 by decide]
      have HR1 := Lib.hid h1
      have HO1 := Lib.hid ho1
      clear h1 ho1 h2 hb
      go_wp2_with fail
      go_end0
      exact ⟨rfl, HR1.out, HO1.out⟩

set_option maxHeartbeats 1600000 in
theorem pow_any (N : Nat) {x : Lm} (hx : x.ok) (w : World) :
    Calls Tryd.prog 36 #[.agg (EL x).toArray, .agg (By N 32).toArray] w fun e w' => e = .returned (.agg (EL (powL x N)).toArray) ∧ Below w.heap.size w w' := by
  unfold powL
  have HS4 := Lib.hid el_info
  have HSB := Lib.hid by_info
  have HSM := Lib.hid (small_any 1 (by decide))
  have HDN := Lib.hid (fun g1 g2 wx h1 h2 hne => down_any N hx oneL_ok g1 g2 wx h1 h2 hne)
  have hr1 := ((Row.new w (EL x) 26).alloc (.cells (By N 32).toArray 22)).alloc (.cells (EL zeL).toArray 26)
  have hr2 := (Row.new1 w (.cells (EL x).toArray 26) (By N 32) 22).alloc (.cells (EL zeL).toArray 26)
  have hr3 := Row.new2 w (.cells (EL x).toArray 26) (.cells (By N 32).toArray 22) (EL zeL) 26
  have hb0 := Below.alloc3 w (.cells (EL x).toArray 26) (.cells (By N 32).toArray 22) (.cells (EL zeL).toArray 26)
  have HR1 := Lib.hid hr1
  have HR2 := Lib.hid hr2
  have HR3 := Lib.hid hr3
  have HB0 := Lib.hid hb0
  clear hr1 hr2 hr3 hb0
  go_enter Tryd.func36, Tryd.ntmps36
  go_wp2_with fail
  refine (HSM.out _).mono ?_
  rintro e w1 ⟨rfl, hb1⟩
  rw [show (#[Value.int .u64 0, .int .u64 0, .int .u64 0, .int .u64 0, .int .u64 0] : Array Value) = (EL zeL).toArray from rfl] at hb1
  have hs0 : (((w.alloc (.cells (EL x).toArray 26)).alloc (.cells (By N 32).toArray 22)).alloc (.cells (EL zeL).toArray 26)).heap.size = w.heap.size + 1 + 1 + 1 := by simp
  have hsz := hb1.size
  rw [hs0] at hsz
  have hx1 := HR1.out.belowAll hb1
  have hn1 := HR2.out.belowAll hb1
  have hz1 := HR3.out.belowAll hb1
  have hw1 := HB0.out.trans (hb1.mono HB0.out.size)
  have hv0 := Row.new w1 (EL zeL) 26
  have hv1 := hv0.setRow (EL oneL)
  have hx2 := (hx1.alloc (.cells (EL zeL).toArray 26)).setRowOther (k := w1.heap.size) (by omega) (EL oneL).toArray
  have hn2 := (hn1.alloc (.cells (EL zeL).toArray 26)).setRowOther (k := w1.heap.size) (by omega) (EL oneL).toArray
  have hz2 := (hz1.alloc (.cells (EL zeL).toArray 26)).setRowOther (k := w1.heap.size) (by omega) (EL oneL).toArray
  have hw2 := below_setRow (g := w1.heap.size) (hw1.alloc (by omega) (.cells (EL zeL).toArray 26)) (by omega) (EL oneL).toArray
  have HV0 := Lib.hid hv0
  have HV1 := Lib.hid hv1
  have HX2 := Lib.hid hx2
  have HN2 := Lib.hid hn2
  have HZ2 := Lib.hid hz2
  have HW2 := Lib.hid hw2
  have HSZ := Lib.hid hsz
  clear hb1 hs0 hsz hx1 hn1 hz1 hw1 hv0 hv1 hx2 hn2 hz2 hw2
  rw [show (L5 1 0 0 0 0).toArray = (EL oneL).toArray from rfl]
  go_wp2_with (first
    | (refine wpList_store_row rfl 26 (.tmp 5) (.tmp 6) rfl w1.heap.size _ rfl rfl 26 _ HV0.out (HS4.out _) (EL_sz _ _) (EL_one _) ?_)
    | (refine wpList_load_row rfl 22 (.tmp 3) rfl (w.heap.size + 1) rfl 22 _ (0, 0) _ HN2.out Tryd.underlying22 rfl (HSB.out _) ?_))
  refine (HDN.out w1.heap.size w.heap.size _ HV1.out HX2.out (by have := HSZ.out; omega)).mono ?_
  rintro e w3 ⟨rfl, hr, ho⟩
  have hz3 := HZ2.out.only ho (by have := HSZ.out; omega)
  have hw3 := HW2.out.trans (ho.below (B := w.heap.size) HW2.out.size (fun k e => by have := HSZ.out; omega))
  have HR := Lib.hid hr
  have HZ3 := Lib.hid hz3
  have HW3 := Lib.hid hw3
  clear hr ho hz3 hw3
  go_wp2_with (first
    | (refine wpList_load_row rfl 26 (.tmp 5) rfl w1.heap.size rfl 26 _ (0, 0) _ HR.out Tryd.underlying26 rfl (HS4.out _) ?_)
    | (refine wpList_store_row rfl 26 (.tmp 4) (.tmp 10) rfl (w.heap.size + 1 + 1) _ rfl rfl 26 _ HZ3.out (HS4.out _) (EL_sz _ _) (EL_one _) ?_))
  have hgot := setRow_heap w3 (w.heap.size + 1 + 1) _ (EL (pwS x N oneL 256)).toArray _ _ HZ3.out
  refine bodyPost_ret (results_cell_row (by rfl) _ _ (w.heap.size + 1 + 1) _ _ _ _ (by rfl) hgot Tryd.underlying26 rfl (HS4.out _)) rfl ?_
  exact ⟨rfl, below_setRow HW3.out (by omega) _⟩

end Go.Proofs.YthpbipebpaeagaaDoor
