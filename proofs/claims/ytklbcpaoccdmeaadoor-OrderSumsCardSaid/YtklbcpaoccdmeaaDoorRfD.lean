/- The document's Reduce and Below. -/
import Derived.Test.YtklbcpaoccdmeaaDoorRfC
import Derived.Laws.BitsAllLaws
import Derived.Deep.CutRange
import Derived.Deep.CutBlock
import Derived.RegionTactic
import Derived.Lib.Hide
import Derived.IntWalk
namespace Go.Proofs.YtklbcpaoccdmeaaDoor
set_option maxRecDepth 100000
open Go.RowKit

theorem pow_le256 {a b : Nat} (h : a ≤ b) : 256 ^ a ≤ 256 ^ b := Nat.pow_le_pow_right (by decide) h
theorem r_lt64 (x : Nat) : x % qq < 256 ^ 64 := Nat.lt_of_lt_of_le (r_lt x) (pow_le256 (by omega))
set_option maxHeartbeats 1600000 in
theorem reduce_doc (A : Nat) (hA : A < 256 ^ 64) (w : World) :
    Calls Tryd.prog 9 #[.agg (By A 64).toArray] w fun e w' => e = .returned (.agg (By (A % qq) 32).toArray) ∧ Below w.heap.size w w' := by
  have ha := (Row.new w (By A 64) 22).alloc (.cells (List.replicate 32 (Value.int .u8 0)).toArray 23)
  have hr := Row.new1 w (.cells (By A 64).toArray 22) (List.replicate 32 (Value.int .u8 0)) 23
  have hb0 := Below.alloc2 w (.cells (By A 64).toArray 22) (.cells (List.replicate 32 (Value.int .u8 0)).toArray 23)
  have hsz : ((w.alloc (.cells (By A 64).toArray 22)).alloc (.cells (List.replicate 32 (Value.int .u8 0)).toArray 23)).heap.size = w.heap.size + 1 + 1 := by simp
  have hS8 : ∀ x, (Tryd.prog.info? 23).map (·.size) = some (By x 32).toArray.size := by_info
  have hO8 : ∀ x, (List.replicate 32 (Value.int .u8 0)).toArray.size = (By x 32).toArray.size := fun x => by rw [List.size_toArray, List.size_toArray, By_length, List.length_replicate]
  have HA := Lib.hid ha
  have HR := Lib.hid hr
  have HB0 := Lib.hid hb0
  have HSZ := Lib.hid hsz
  have HA0 := Lib.hid hA
  have HS8 := Lib.hid hS8
  have HO8 := Lib.hid hO8
  clear ha hr hb0 hsz hA hS8 hO8
  go_enter Tryd.func9, Tryd.ntmps9
  go_wp2_with fail
  refine (digits_any A 64 (by decide) (some ⟨w.heap.size, 0, none⟩) 64 _ _ (HA.out.rd (By_length A 64))).mono ?_
  rintro e w4 ⟨v, rfl, hown4, hb4⟩
  obtain ⟨g4, c4, rfl, _, _⟩ := hown4.form (by decide)
  have hr4 := HR.out.belowAll hb4
  have hbe4 := HB0.out.trans (hb4.mono (by rw [HSZ.out]; omega))
  have HOWN4 := Lib.hid hown4
  have HR4 := Lib.hid hr4
  have HBE4 := Lib.hid hbe4
  clear hb4 hr4 hbe4 hown4
  go_wp2_with fail
  refine (rest_doc A 64 HA0.out (by decide) (by decide) (some ⟨g4, 0, none⟩) c4 _ _ (Rd.of_own HOWN4.out)).mono ?_
  rintro e w5 ⟨v, rfl, hown5, hb5⟩
  obtain ⟨g5, c5, rfl, _, _⟩ := hown5.form (by decide)
  have hr5 := HR4.out.belowAll hb5
  have hbe5 := HBE4.out.trans (hb5.mono HBE4.out.size)
  have HOWN5 := Lib.hid hown5
  have HR5 := Lib.hid hr5
  have HBE5 := Lib.hid hbe5
  clear hb5 hr5 hbe5 hown5
  go_wp2_with fail
  refine (rbytes_any (A % qq) 64 (r_lt64 A) (by decide) (some ⟨g5, 0, none⟩) c5 _ _ (Rd.of_own HOWN5.out)).mono ?_
  rintro e w6 ⟨rfl, hb6⟩
  have hr6 := HR5.out.belowAll hb6
  have hbe6 := HBE5.out.trans (hb6.mono HBE5.out.size)
  have HR6 := Lib.hid hr6
  have HBE6 := Lib.hid hbe6
  clear hb6 hr6 hbe6
  go_wp2_with (refine wpList_store_row rfl 23 (.tmp 2) (.tmp 6) rfl (w.heap.size + 1) _ rfl rfl 23 _ HR6.out (HS8.out _) (HO8.out _) (By_one _ _) ?_)
  have hgot := setRow_heap w6 (w.heap.size + 1) _ (By (A % qq) 32).toArray _ _ HR6.out
  refine bodyPost_ret (results_cell_row (by rfl) _ _ (w.heap.size + 1) _ _ _ _ (by rfl) hgot Tryd.underlying23 rfl (HS8.out _)) rfl ?_
  exact ⟨rfl, below_setRow HBE6.out (by omega) _⟩

set_option maxHeartbeats 1600000 in
theorem below_doc (N : Nat) (hN : N < 256 ^ 32) (w : World) :
    Calls Tryd.prog 11 #[.agg (By N 32).toArray] w fun e w' => e = .returned (.bool (decide (N < qq))) ∧ Below w.heap.size w w' := by
  have ha := Row.new w (By N 32) 23
  have hb0 := (Below.refl w.heap.size w).alloc (Nat.le_refl _) (.cells (By N 32).toArray 23)
  have HA := Lib.hid ha
  have HB0 := Lib.hid hb0
  have HN := Lib.hid hN
  clear ha hb0 hN
  go_enter Tryd.func11, Tryd.ntmps11
  go_wp2_with fail
  refine (digits_any N 32 (by decide) (some ⟨w.heap.size, 0, none⟩) 32 _ _ (HA.out.rd (By_length N 32))).mono ?_
  rintro e w4 ⟨v, rfl, hown4, hb4⟩
  obtain ⟨g4, c4, rfl, _, _⟩ := hown4.form (by decide)
  have hbe4 := HB0.out.trans (hb4.mono HB0.out.size)
  have HOWN4 := Lib.hid hown4
  have HBE4 := Lib.hid hbe4
  clear hb4 hbe4 hown4
  go_wp2_with fail
  refine (Q_any w4).mono ?_
  rintro e w5 ⟨g5, rfl, hq5, hb5⟩
  have hless := less_any N 32 qq 32 0 HN.out q_256 (by decide) (by decide) (by decide) (some ⟨g4, 0, none⟩) (some ⟨g5, 0, none⟩) c4 32 _ _ w5 (Rd.of_own (own_below HOWN4.out hb5)) (hq5.rd (Tabs_length _ _ _))
  rw [Nat.pow_zero, Nat.mul_one] at hless
  have hbe5 := HBE4.out.trans (hb5.mono HBE4.out.size)
  have HL := Lib.hid hless
  have HBE5 := Lib.hid hbe5
  clear hq5 hb5 hless hbe5
  go_wp2_with fail
  refine HL.out.mono ?_
  rintro e w6 ⟨rfl, rfl⟩
  go_wp2_with fail
  go_ret
  exact ⟨rfl, HBE5.out⟩

end Go.Proofs.YtklbcpaoccdmeaaDoor
