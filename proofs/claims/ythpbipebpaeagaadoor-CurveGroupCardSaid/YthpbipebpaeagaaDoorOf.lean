/- field's Of. -/
import Derived.Test.YthpbipebpaeagaaDoorAdd
import Derived.Test.YthpbipebpaeagaaDoorIdx
import Derived.Test.YthpbipebpaeagaaDoorArgF
namespace Go.Proofs.YthpbipebpaeagaaDoor
set_option maxRecDepth 100000
open Go.RowKit

theorem w8u (n : Int) (h₀ : 0 ≤ n) (h₁ : n < 2 ^ 8) : IntKind.u8.wrap n = n := by rw [IntKind.wrap_u8]; omega
theorem mask7 (l : Nat) (h : l < 256) : bits .and .u8 (l : Int) 127 = ((l % 128 : Nat) : Int) := by
  have h1 := bits_mask .u8 8 (by decide) w8u 7 (by decide) (l : Int) (by omega) (by omega)
  have h2 : ((l % 128 : Nat) : Int) = (l : Int) % 2 ^ 7 := by omega
  rw [h2]
  exact h1
theorem by_info (N : Nat) : (Tryd.prog.info? 22).map (·.size) = some (By N 32).toArray.size := by rw [List.size_toArray, By_length]; kernel_rfl
theorem u8_size : (Tryd.prog.info? 5).map (·.size) = some 1 := by kernel_rfl
theorem by_index (N : Nat) {k : Nat} (hk : k < 32) (w : World) : (Instr.index 22 (.agg (By N 32).toArray) (.int .i64 (k : Int))).run Tryd.prog w = .ok (.int .u8 ((byt N k : Nat) : Int)) w := by
  obtain ⟨i, hi⟩ := info_of_underlying Tryd.underlying5
  have hs : i.size = 1 := by
    have h := u8_size
    rw [hi] at h
    simpa using h
  exact run_index_int w Tryd.underlying22 hi hs Tryd.underlying5 _ k hk _ (by rw [List.getElem?_toArray]; exact By_get N 32 hk)
/-- The highest bit struck. -/
theorem By_set31 (N : Nat) : (By N 32).set 31 (.int .u8 ((byt N 31 % 128 : Nat) : Int)) = By (N % 57896044618658097711785492504343953926634992332820282019728792003956564819968) 32 := by
  refine By_ext _ 32 (by rw [List.length_set, By_length]) fun k hk => ?_
  rw [List.getElem?_set]
  by_cases e : 31 = k
  · subst e
    rw [if_pos rfl, if_pos (by rw [By_length]; decide), byt_mod255_31]
  · rw [if_neg e, By_get N 32 hk, byt_mod255 N (by omega)]
theorem ofl_next (N k j : Nat) : ofl N (k + 1) j = ofl N k j + if 8 * k / 51 = j then byt N k * 2 ^ (8 * k % 51) else 0 := rfl
/-- One byte more. -/
theorem ofl_set (N : Nat) {k : Nat} (_hk : k < 32) : (Tabs .u64 (ofl N k) 5).set (8 * k / 51) (.int .u64 ((ofl N k (8 * k / 51) + byt N k * 2 ^ (8 * k % 51) : Nat) : Int)) = Tabs .u64 (ofl N (k + 1)) 5 := by
  refine List.ext_getElem? fun j => ?_
  by_cases hj : j < 5
  · rw [List.getElem?_set, Tabs_get _ _ _ hj, Tabs_get _ _ _ hj, ofl_next]
    by_cases e : 8 * k / 51 = j
    · rw [if_pos e, if_pos (by rw [Tabs_length]; omega), if_pos e, e]
    · rw [if_neg e, if_neg e, Nat.add_zero]
  · rw [List.getElem?_eq_none (by rw [List.length_set, Tabs_length]; omega), List.getElem?_eq_none (by rw [Tabs_length]; omega)]
theorem ofl_sum_lt (N : Nat) {k : Nat} (hk : k < 32) : ofl N k (8 * k / 51) + byt N k * 2 ^ (8 * k % 51) < 4611686018427387904 := by
  have h := ofl_mono N (8 * k / 51) (k := k + 1) (n := 32) (by omega)
  have h2 := ofl_lt N (8 * k / 51) (by omega)
  rw [ofl_next, if_pos rfl] at h
  omega
theorem raL_tabs (N : Nat) : Tabs .u64 (ofl N 32) 5 = EL (raL N) := rfl

set_option maxHeartbeats 3200000 in
theorem of_any (N : Nat) (w : World) :
    Calls Tryd.prog 14 #[.agg (By N 32).toArray] w fun e w' => e = .returned (.agg (EL (ofB N)).toArray) ∧ Below w.heap.size w w' := by
  unfold ofB
  have hset31 := By_set31 N
  have hb31 := byt_lt N 31
  have hmask := mask7 (byt N 31) hb31
  generalize N % 57896044618658097711785492504343953926634992332820282019728792003956564819968 = M at *
  have hcr := carry_lm (raL_wide M)
  have HCR := Lib.hid hcr
  have HS4 := Lib.hid el_info
  have HS5 := Lib.hid l5_info
  have HSB := Lib.hid by_info
  have HBD := Lib.hid (el_build (crL (raL M)))
  have HIX := Lib.hid (fun k (hk : k < 32) => by_index M hk)
  have c31 : ∀ X, ((w.alloc (.cells (By N 32).toArray 22)).alloc X).cell? ⟨w.heap.size, 31, none⟩ = some (.int .u8 ((byt N 31 : Nat) : Int)) := fun X => ((Row.new w (By N 32) 22).alloc X).cell (By_get N 32 (by decide))
  have f31 : ∀ X, ((w.alloc (.cells (By N 32).toArray 22)).alloc X).frozen? ⟨w.heap.size, 31, none⟩ = false := fun X => ((Row.new w (By N 32) 22).alloc X).free 31
  have hbox : ∀ X Y, Row (((w.alloc (.cells ((By N 32).set 31 (.int .u8 (((byt N 31 : Nat) : Int) % 128))).toArray 22)).alloc X).alloc Y) w.heap.size 22 (By M 32) := fun X Y => by
    have e : (((byt N 31 : Nat) : Int) % 128) = ((byt N 31 % 128 : Nat) : Int) := by omega
    rw [e, hset31]
    exact ((Row.new w (By M 32) 22).alloc X).alloc Y
  have HBOX := Lib.hid hbox
  clear hset31 hcr hbox
  go_enter Tryd.func14, Tryd.ntmps14
  go_wp2_with (refine wpList_load_row rfl 22 (.tmp 1) rfl w.heap.size rfl 22 _ (0, 0) _ (HBOX.out _ _) Tryd.underlying22 rfl (HSB.out _) ?_)
  go_loopw [11] (fun i wr => ∃ k : Nat, k ≤ 32 ∧ i = .int .i64 k ∧ Row wr (w.heap.size + 1 + 1) 24 (Tabs .u64 (ofl M k) 5) ∧ Row wr (w.heap.size + 1) 26 (EL zeL) ∧ Below w.heap.size w wr) (fun i _ => 32 - (intOf i).toNat)
  case atStart =>
    exact ⟨0, Nat.zero_le _, rfl, Row.new2 w _ _ _ _, (Row.new1 w _ _ _).alloc _, Below.alloc3 _ _ _ _⟩
  case round =>
    obtain ⟨k, hkn, rfl, hl, hres, hbe⟩ := hrel
    by_cases hlt : k < 32
    · have hq5 : 8 * k / 51 < 5 := by omega
      have hold := hl.cell (Tabs_get .u64 (ofl M k) 5 hq5)
      have hfree := hl.free (8 * k / 51)
      have hset := hl.set (8 * k / 51) (.int .u64 ((ofl M k (8 * k / 51) + byt M k * 2 ^ (8 * k % 51) : Nat) : Int))
      rw [ofl_set M hlt] at hset
      have hres2 := hres.setCell (p := ⟨w.heap.size + 1 + 1, 8 * k / 51, none⟩) (by show _ ≠ w.heap.size + 1 + 1; omega) (.int .u64 ((ofl M k (8 * k / 51) + byt M k * 2 ^ (8 * k % 51) : Nat) : Int))
      have hb2 := hbe.setCell (p := ⟨w.heap.size + 1 + 1, 8 * k / 51, none⟩) (by simp; omega) (.int .u64 ((ofl M k (8 * k / 51) + byt M k * 2 ^ (8 * k % 51) : Nat) : Int))
      have hix := HIX.out k hlt
      have hbnd := ofl_sum_lt M hlt
      have hcal : IntKind.u64.wrap (((byt M k : Nat) : Int) * 2 ^ (8 * k % 51)) = ((byt M k * 2 ^ (8 * k % 51) : Nat) : Int) := by
        have e : ((byt M k : Nat) : Int) * 2 ^ (8 * k % 51) = ((byt M k * 2 ^ (8 * k % 51) : Nat) : Int) := by simp
        rw [e, IntKind.wrap_u64]
        omega
      have hm51 : 8 * k % 51 < 51 := Nat.mod_lt _ (by decide)
      have hd : Int.tdiv (8 * (k : Int)) 51 = ((8 * k / 51 : Nat) : Int) := by rw [Int.tdiv_eq_ediv_of_nonneg (by omega)]; omega
      have hm : Int.tmod (8 * (k : Int)) 51 = ((8 * k % 51 : Nat) : Int) := by rw [Int.tmod_eq_emod_of_nonneg (by omega)]; omega
      have hd' : (8 * (k : Int)) / 51 = ((8 * k / 51 : Nat) : Int) := by omega
      have hm' : (8 * (k : Int)) % 51 = ((8 * k % 51 : Nat) : Int) := by omega
      have hlb := byt_lt M k
      generalize hsh : byt M k * 2 ^ (8 * k % 51) = sh at *
      generalize hoo : ofl M k (8 * k / 51) = oo at *
      generalize hqq : 8 * k / 51 = q at *
      generalize hrr : 8 * k % 51 = r at *
      generalize hbb : byt M k = bk at *
      clear hsh hoo hqq hrr hbb
      have b0 : (0 : Int) ≤ (k : Int) := by omega
      have b1 : (k : Int) < 32 := by omega
      have b2 : (0 : Int) ≤ (q : Int) := by omega
      have b3 : (q : Int) < 5 := by omega
      have b4 : (0 : Int) ≤ (r : Int) := by omega
      have b5 : (r : Int) < 64 := by omega
      have hw1 : IntKind.i64.wrap ((q : Nat) : Int) = (q : Int) := IntWalk.i64_in _ (by omega)
      have HSET := Lib.hid hset
      have HRES2 := Lib.hid hres2
      have HB2 := Lib.hid hb2
      have HCAL := Lib.hid hcal
      have HBND := Lib.hid hbnd
      clear hl hres hbe hset hres2 hb2 hcal hbnd
      go_wp2_with fail
      go_region
      have hsum : IntKind.u64.wrap ((oo : Int) + (sh : Int)) = ((oo + sh : Nat) : Int) := by
        have := HBND.out
        rw [IntKind.wrap_u64]
        omega
      rw [HCAL.out, hsum]
      have hset3 := HSET.out
      have hres3 := HRES2.out
      have hb3 := HB2.out.drew
      generalize wr.setCell ⟨w.heap.size + 1 + 1, q, none⟩ (Value.int .u64 ((oo + sh : Nat) : Int)) = wy at *
      have HSET3 := Lib.hid hset3
      have HRES3 := Lib.hid hres3
      have HB3 := Lib.hid hb3
      clear hset3 hres3 hb3 hsum hd hm hd' hm' hw1 hix hold hfree
      go_wp2_with fail
      go_roundw
      case rel => exact ⟨k + 1, by omega, by go_num, HSET3.out, HRES3.out, HB3.out⟩
      case measure => simp [intOf]; omega
    · obtain rfl : k = 32 := by omega
      rw [raL_tabs] at hl
      have HROW := Lib.hid hl
      have HRES := Lib.hid hres
      have HBE := Lib.hid hbe
      clear hl hres hbe
      go_wp2_with (refine wpList_load_row rfl 24 (.tmp 3) rfl (w.heap.size + 1 + 1) rfl 24 _ (0, 0) _ HROW.out Tryd.underlying24 rfl (HS5.out _) ?_)
      refine (HCR.out _).mono ?_
      rintro e w5 ⟨rfl, hb5⟩
      have HRES5 := Lib.hid (HRES.out.belowAll hb5)
      have HBE5 := Lib.hid (HBE.out.trans (hb5.mono HBE.out.size))
      clear hb5
      go_wp2_with (first
        | (refine wpList_build1 rfl 26 (.tmp 30) rfl (.agg (EL (crL (raL M))).toArray) (.agg (EL (crL (raL M))).toArray) rfl (HBD.out _) ?_)
        | (refine wpList_store_row rfl 26 (.tmp 2) (.tmp 31) rfl (w.heap.size + 1) _ rfl rfl 26 _ HRES5.out (HS4.out _) (EL_sz _ _) (EL_one _) ?_))
      have hgot := setRow_heap w5 (w.heap.size + 1) _ (EL (crL (raL M))).toArray _ _ HRES5.out
      refine bodyPost_ret (results_cell_row (by rfl) _ _ (w.heap.size + 1) _ _ _ _ (by rfl) hgot Tryd.underlying26 rfl (HS4.out _)) rfl ?_
      exact ⟨rfl, below_setRow HBE5.out (by omega) _⟩

end Go.Proofs.YthpbipebpaeagaaDoor
