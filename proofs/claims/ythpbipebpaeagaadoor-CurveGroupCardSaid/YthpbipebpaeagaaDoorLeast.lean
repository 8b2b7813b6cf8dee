/- field.least. -/
import Derived.Test.YthpbipebpaeagaaDoorAdd
namespace Go.Proofs.YthpbipebpaeagaaDoor
set_option maxRecDepth 100000
open Go.RowKit

/-- The limbs, the first ones handed on. -/
def lmx (y : Lm) (s k j : Nat) : Nat := if j < k then lout y s j else y.get j
theorem lmx_zero (y : Lm) (s : Nat) : Tabs .u64 (lmx y s 0) 5 = EL y := by
  rw [← EL_tabs]
  exact Tabs_congr _ fun i _ => by unfold lmx; rw [if_neg (by omega)]
theorem lmx_set (y : Lm) (s : Nat) {k : Nat} (hk : k < 5) : (Tabs .u64 (lmx y s k) 5).set k (.int .u64 ((lout y s k : Nat) : Int)) = Tabs .u64 (lmx y s (k + 1)) 5 := by
  refine List.ext_getElem? fun j => ?_
  by_cases hj : j < 5
  · rw [List.getElem?_set, Tabs_get _ _ _ hj, Tabs_get _ _ _ hj]
    unfold lmx
    by_cases e : k = j
    · subst e; rw [if_pos rfl, if_pos (by rw [Tabs_length]; exact hk), if_pos (by omega)]
    · rw [if_neg e]
      by_cases h2 : j < k
      · rw [if_pos h2, if_pos (by omega)]
      · rw [if_neg h2, if_neg (by omega)]
  · rw [List.getElem?_eq_none (by rw [List.length_set, Tabs_length]; omega), List.getElem?_eq_none (by rw [Tabs_length]; omega)]
theorem least_tabs {x : Lm} (h : x.ok) : Tabs .u64 (lmx (crL x) (cin (crL x) 19 5 * 19) 5) 5 = EL (ofN (nu x)) := by
  have e : EL (ofN (nu x)) = Tabs .u64 (dg (nu x)) 5 := rfl
  rw [e]
  refine Tabs_congr _ fun i hi => ?_
  unfold lmx
  rw [if_pos hi, least_lout h i hi]
theorem ok_wide {x : Lm} (h : x.ok) : x.wide := ⟨Nat.lt_of_lt_of_le h.a (by decide), Nat.lt_of_lt_of_le h.b (by decide), Nat.lt_of_lt_of_le h.c (by decide), Nat.lt_of_lt_of_le h.d (by decide), Nat.lt_of_lt_of_le h.e (by decide)⟩

set_option maxHeartbeats 3200000 in
theorem least_any {x : Lm} (hx : x.ok) (w : World) :
    Calls Tryd.prog 66 #[.agg (EL x).toArray] w fun e w' => e = .returned (.agg (EL (ofN (nu x))).toArray) ∧ Below w.heap.size w w' := by
  have hcr := carry_lm (ok_wide hx)
  have hlt := least_tabs hx
  have hyok := crL_ok (ok_wide hx)
  have hc5 := cin_lt hyok (s := 19) (by decide) 5
  have hc1 : cin (crL x) 19 5 ≤ 1 := by
    have hg := hyok.e
    have h4 := cin_lt hyok (s := 19) (by decide) 4
    show ((crL x).e + cin (crL x) 19 4) / 2251799813685248 ≤ 1
    obtain ⟨_, _, _, _, _⟩ := hx
    have he : (crL x).e ≤ 2251799813685248 := by simp only [crL]; omega
    omega
  clear hc5
  generalize crL x = y at *
  have HCR := Lib.hid hcr
  have HYOK := Lib.hid hyok
  have HLT := Lib.hid hlt
  have HC1 := Lib.hid hc1
  have HS5 := Lib.hid l5_info
  have HIX := Lib.hid (fun k (hk : k < 5) => l5_index y hk)
  clear hcr hlt hyok hc1
  go_enter Tryd.func66, Tryd.ntmps66
  have hbox : ∀ X, Row ((w.alloc (.cells (EL x).toArray 24)).alloc X) w.heap.size 24 (EL x) := fun X => (Row.new w (EL x) _).alloc X
  have HBOX := Lib.hid hbox
  clear hbox
  go_wp2_with (refine wpList_load_row rfl 24 (.tmp 1) rfl w.heap.size rfl 24 _ (0, 0) _ (HBOX.out _) Tryd.underlying24 rfl (HS5.out _) ?_)
  refine (HCR.out _).mono ?_
  rintro e w1 ⟨rfl, hb1⟩
  have hx1 := (HBOX.out (.cells (EL zeL).toArray 24)).belowAll hb1
  have hr1 := (Row.new1 w (.cells (EL x).toArray 24) (EL zeL) 24).belowAll hb1
  have hw1 := (Below.alloc2 w (.cells (EL x).toArray 24) (.cells (EL zeL).toArray 24)).trans (hb1.mono (Below.alloc2 w (.cells (EL x).toArray 24) (.cells (EL zeL).toArray 24)).size)
  have hx2 := hx1.setRow (EL y)
  have hr2 := hr1.setRowOther (k := w.heap.size) (by omega) (EL y).toArray
  have hw2 := below_setRow (g := w.heap.size) hw1 (Nat.le_refl _) (EL y).toArray
  have HX1 := Lib.hid hx1
  have HX2 := Lib.hid hx2
  have HR2 := Lib.hid hr2
  have HW2 := Lib.hid hw2
  clear hb1 hx1 hr1 hw1 hx2 hr2 hw2
  go_wp2_with (first
    | (refine wpList_store_row rfl 24 (.tmp 1) (.tmp 9) rfl w.heap.size _ rfl rfl 24 _ HX1.out (HS5.out _) (EL_sz _ _) (EL_one _) ?_)
    | (refine wpList_load_row rfl 24 (.tmp 1) rfl w.heap.size rfl 24 _ (0, 0) _ HX2.out Tryd.underlying24 rfl (HS5.out _) ?_))
  generalize w1.setRow w.heap.size (EL y).toArray = w2 at *
  go_loop [3, 11] (fun o i => ∃ k : Nat, k ≤ 5 ∧ i = .int .i64 k ∧ o = .int .u64 ((cin y 19 k : Nat) : Int)) (fun _ i => 5 - (intOf i).toNat)
  case atStart => exact ⟨0, Nat.zero_le _, rfl, rfl⟩
  case round =>
    obtain ⟨k, hkn, rfl, rfl⟩ := hrel
    by_cases hlt : k < 5
    · have hix := HIX.out k hlt
      have lx := Lm.get_lt HYOK.out k
      have ly := cin_lt HYOK.out (s := 19) (by decide) k
      have hnx : (((y.get k : Nat) : Int) + ((cin y 19 k : Nat) : Int)) / 2251799813685248 = ((cin y 19 (k + 1) : Nat) : Int) := by
        show _ = (((y.get k + cin y 19 k) / 2251799813685248 : Nat) : Int)
        omega
      have HNX := Lib.hid hnx
      clear hnx
      generalize hzz : cin y 19 (k + 1) = z at *
      have HZ := Lib.hid hzz
      clear hzz
      generalize cin y 19 k = c at *
      generalize y.get k = g at *
      have b0 : (0 : Int) ≤ (k : Int) := by omega
      have b1 : (k : Int) < 5 := by omega
      go_wp2_with fail
      go_round
      case rel => exact ⟨k + 1, by omega, by go_num, by rw [HNX.out, ← HZ.out]⟩
      case measure => simp [intOf]; omega
    · obtain rfl : k = 5 := by omega
      have hlt2 := HLT.out
      have hc1 := HC1.out
      have hc0 : cin y 19 5 * 19 < 2251799813685248 := by omega
      have HC0 := Lib.hid hc0
      have HLT2 := Lib.hid hlt2
      clear hlt2 hc0 hlt
      generalize hoo : cin y 19 5 = oo at *
      have hm19 : ((oo : Nat) : Int) * 19 = ((oo * 19 : Nat) : Int) := by omega
      have HM19 := Lib.hid hm19
      clear hoo hm19
      go_wp2_with (refine wpList_load_row rfl 24 (.tmp 1) rfl w.heap.size rfl 24 _ (0, 0) _ HX2.out Tryd.underlying24 rfl (HS5.out _) ?_)
      rw [HM19.out]
      generalize oo * 19 = sx at *
      clear HM19 hc1
      go_loopw [3, 22] (fun o i wr => ∃ k : Nat, k ≤ 5 ∧ i = .int .i64 k ∧ o = .int .u64 ((cin y sx k : Nat) : Int) ∧ Row wr w.heap.size 24 (Tabs .u64 (lmx y sx k) 5) ∧ Row wr (w.heap.size + 1) 24 (EL zeL) ∧ Below w.heap.size w wr) (fun _ i _ => 5 - (intOf i).toNat)
      case atStart => exact ⟨0, Nat.zero_le _, rfl, rfl, by rw [lmx_zero]; exact HX2.out, HR2.out, HW2.out⟩
      case round =>
        obtain ⟨k, hkn, rfl, rfl, hl, hres, hbe⟩ := hrel
        by_cases hlt : k < 5
        · have hix := HIX.out k hlt
          have lx := Lm.get_lt HYOK.out k
          have ly := cin_lt HYOK.out HC0.out k
          have hold := hl.cell (Tabs_get .u64 (lmx y sx k) 5 hlt)
          have hfree := hl.free k
          have hset := hl.set k (.int .u64 ((lout y sx k : Nat) : Int))
          rw [lmx_set y sx hlt] at hset
          have hres2 := hres.setCell (p := ⟨w.heap.size, k, none⟩) (by show _ ≠ w.heap.size; omega) (.int .u64 ((lout y sx k : Nat) : Int))
          have hb2 := hbe.setCell (p := ⟨w.heap.size, k, none⟩) (by simp) (.int .u64 ((lout y sx k : Nat) : Int))
          have hnx : (((y.get k : Nat) : Int) + ((cin y sx k : Nat) : Int)) / 2251799813685248 = ((cin y sx (k + 1) : Nat) : Int) := by
            show _ = (((y.get k + cin y sx k) / 2251799813685248 : Nat) : Int)
            omega
          have hmk : bits .and .u64 (((y.get k : Nat) : Int) + ((cin y sx k : Nat) : Int)) 2251799813685247 = ((lout y sx k : Nat) : Int) := by
            have h := mask51 (y.get k + cin y sx k) (by omega)
            have e : ((y.get k + cin y sx k : Nat) : Int) = ((y.get k : Nat) : Int) + ((cin y sx k : Nat) : Int) := by omega
            rw [e] at h
            exact h
          generalize lout y sx k = s at *
          generalize hzz : cin y sx (k + 1) = z at *
          have HZ := Lib.hid hzz
          clear hzz
          generalize cin y sx k = c at *
          generalize y.get k = g at *
          generalize lmx y sx k k = old at *
          have b0 : (0 : Int) ≤ (k : Int) := by omega
          have b1 : (k : Int) < 5 := by omega
          have HNX := Lib.hid hnx
          have HMK := Lib.hid hmk
          have HSET := Lib.hid hset
          have HRES2 := Lib.hid hres2
          have HB2 := Lib.hid hb2
          clear hl hres hbe hset hres2 hb2 hnx hmk
          go_wp2_with fail
          go_roundw
          case rel =>
            rw [HMK.out, HNX.out]
            exact ⟨k + 1, by omega, by go_num, by rw [← HZ.out], HSET.out, HRES2.out, HB2.out⟩
          case measure => simp [intOf]; omega
        · obtain rfl : k = 5 := by omega
          have hl2 := hl
          rw [HLT2.out] at hl2
          have HROW := Lib.hid hl2
          have HRES := Lib.hid hres
          have HBE := Lib.hid hbe
          clear hl hl2 hres hbe hlt
          go_wp2_with (first
            | (refine wpList_load_row rfl 24 (.tmp 1) rfl w.heap.size rfl 24 _ (0, 0) _ HROW.out Tryd.underlying24 rfl (HS5.out _) ?_)
            | (refine wpList_store_row rfl 24 (.tmp 2) (.tmp 37) rfl (w.heap.size + 1) _ rfl rfl 24 _ HRES.out (HS5.out _) (EL_sz _ _) (EL_one _) ?_))
          have hgot := setRow_heap wr (w.heap.size + 1) _ (EL (ofN (nu x))).toArray _ _ HRES.out
          refine bodyPost_ret (results_cell_row (by rfl) _ _ (w.heap.size + 1) _ _ _ _ (by rfl) hgot Tryd.underlying24 rfl (HS5.out _)) rfl ?_
          exact ⟨rfl, below_setRow HBE.out (by omega) _⟩

end Go.Proofs.YthpbipebpaeagaaDoor
