/- field's Bytes. -/
import Derived.Test.YthpbipebpaeagaaDoorLeast
import Derived.Test.YthpbipebpaeagaaDoorOf
namespace Go.Proofs.YthpbipebpaeagaaDoor
set_option maxRecDepth 100000
open Go.RowKit

theorem ofN_get (N : Nat) {k : Nat} (hk : k < 5) : (ofN N).get k = dg N k :=
  match k, hk with
  | 0, _ => rfl
  | 1, _ => rfl
  | 2, _ => rfl
  | 3, _ => rfl
  | 4, _ => rfl
theorem nu_255 (x : Lm) : nu x < 57896044618658097711785492504343953926634992332820282019728792003956564819968 := Nat.lt_trans (nu_lt x) (by decide)
theorem By_set (N n : Nat) {k : Nat} (hk : k < n) : (Tab .u8 (byt N) n k).set k (.int .u8 ((byt N k : Nat) : Int)) = Tab .u8 (byt N) n (k + 1) := Tab_set _ _ _ hk
theorem shr_byte (D t : Nat) : ((D : Nat) : Int) / 2 ^ t % 256 = ((D / 2 ^ t % 256 : Nat) : Int) := by
  have e : ((D : Nat) : Int) / 2 ^ t = ((D / 2 ^ t : Nat) : Int) := by simp
  rw [e]
  omega
theorem shl_byte (E s : Nat) : IntKind.u64.wrap (((E : Nat) : Int) * 2 ^ s) % 256 = ((E * 2 ^ s % 256 : Nat) : Int) := by
  have e : ((E : Nat) : Int) * 2 ^ s = ((E * 2 ^ s : Nat) : Int) := by simp
  rw [e, IntKind.wrap_u64]
  omega

set_option maxHeartbeats 3200000 in
theorem bytes_any {x : Lm} (hx : x.ok) (w : World) :
    Calls Tryd.prog 16 #[.agg (EL x).toArray] w fun e w' => e = .returned (.agg (By (nu x) 32).toArray) ∧ Below w.heap.size w w' := by
  have hn := nu_255 x
  have HLS := Lib.hid (least_any hx)
  have HS4 := Lib.hid el_info
  have HS5 := Lib.hid l5_info
  have HSB := Lib.hid by_info
  generalize nu x = n at *
  have HN := Lib.hid hn
  clear hn
  have hbox : ∀ X, Row ((w.alloc (.cells (EL x).toArray 26)).alloc X) w.heap.size 26 (EL x) := fun X => (Row.new w (EL x) _).alloc X
  have HBOX := Lib.hid hbox
  clear hbox
  go_enter Tryd.func16, Tryd.ntmps16
  go_wp2_with (refine wpList_load_row rfl 24 (.tmp 8) rfl w.heap.size rfl 26 _ (0, 0) _ (HBOX.out _) Tryd.underlying24 rfl (HS5.out _) ?_)
  refine (HLS.out _).mono ?_
  rintro e w1 ⟨rfl, hb1⟩
  have hr1 := (Row.new1 w (.cells (EL x).toArray 26) (List.replicate 32 (.int .u8 0)) 22).belowAll hb1
  have hw1 := (Below.alloc2 w (.cells (EL x).toArray 26) (.cells (List.replicate 32 (.int .u8 0)).toArray 22)).trans (hb1.mono (Below.alloc2 w (.cells (EL x).toArray 26) (.cells (List.replicate 32 (.int .u8 0)).toArray 22)).size)
  have hs1 : w.heap.size + 1 < w1.heap.size := hr1.lt
  have hz1 := Row.new w1 (EL zeL) 24
  have hl2 := hz1.setRow (EL (ofN n))
  have hr2 := (hr1.alloc (.cells (EL zeL).toArray 24)).setRowOther (k := w1.heap.size) (by omega) (EL (ofN n)).toArray
  have hw2 := below_setRow (g := w1.heap.size) (hw1.alloc (by omega) (.cells (EL zeL).toArray 24)) (by omega) (EL (ofN n)).toArray
  have hs2 : ((w1.alloc (.cells (EL zeL).toArray 24)).setRow w1.heap.size (EL (ofN n)).toArray).heap.size = w1.heap.size + 1 := by simp
  have HZ1 := Lib.hid hz1
  have HS1 := Lib.hid hs1
  clear hb1 hr1 hw1 hs1 hz1
  go_wp2_with (refine wpList_store_row rfl 24 (.tmp 3) (.tmp 10) rfl w1.heap.size _ rfl rfl 24 _ HZ1.out (HS5.out _) (EL_sz _ _) (EL_one _) ?_)
  rw [show (#[Value.int .u64 0, .int .u64 0, .int .u64 0, .int .u64 0, .int .u64 0] : Array Value) = (EL zeL).toArray from rfl] 
  generalize (w1.alloc (.cells (EL zeL).toArray 24)).setRow w1.heap.size (EL (ofN n)).toArray = w2 at *
  have hb3 := Row.new w2 (List.replicate 32 (.int .u8 0)) 22
  rw [hs2] at hb3
  have HL2 := Lib.hid hl2
  have HR2 := Lib.hid hr2
  have HW2 := Lib.hid hw2
  have HB3 := Lib.hid hb3
  have HSS2 := Lib.hid hs2
  clear hl2 hr2 hw2 hb3 hs2
  go_loopw [11] (fun i wr => ∃ k : Nat, k ≤ 32 ∧ i = .int .i64 k ∧ Row wr w1.heap.size 24 (EL (ofN n)) ∧ Row wr (w1.heap.size + 1) 22 (Tab .u8 (byt n) 32 k) ∧ Row wr (w.heap.size + 1) 22 (Tab .u8 (byt n) 32 0) ∧ Below w.heap.size w wr) (fun i _ => 32 - (intOf i).toNat)
  case atStart =>
    have hs := HSS2.out
    have h1 := HS1.out
    refine ⟨0, Nat.zero_le _, rfl, HL2.out.alloc _, ?_, ?_, HW2.out.alloc (by omega) _⟩
    · rw [Tab_zero]
      exact HB3.out
    · rw [Tab_zero]
      exact HR2.out.alloc _
  case round =>
    obtain ⟨k, hkn, rfl, hl, hrow, hres, hbe⟩ := hrel
    have hs1 := HS1.out
    by_cases hlt : k < 32
    · have hq5 : 8 * k / 51 < 5 := by omega
      have hcl := hl.cell (EL_get (ofN n) hq5)
      rw [ofN_get n hq5] at hcl
      have hold := hrow.cell (Tab_get .u8 (byt n) 32 k hlt)
      have hfree := hrow.free k
      have hset := fun v => hrow.set k v
      have hdone := By_set n 32 hlt
      have hl2 := fun v => hl.setCell (p := ⟨w1.heap.size + 1, k, none⟩) (by show _ ≠ w1.heap.size + 1; omega) v
      have hres2 := fun v => hres.setCell (p := ⟨w1.heap.size + 1, k, none⟩) (by show _ ≠ w1.heap.size + 1; omega) v
      have hb2 := fun v => hbe.setCell (p := ⟨w1.heap.size + 1, k, none⟩) (by simp; omega) v
      have hd : Int.tdiv (8 * (k : Int)) 51 = ((8 * k / 51 : Nat) : Int) := by rw [Int.tdiv_eq_ediv_of_nonneg (by omega)]; omega
      have hm : Int.tmod (8 * (k : Int)) 51 = ((8 * k % 51 : Nat) : Int) := by rw [Int.tmod_eq_emod_of_nonneg (by omega)]; omega
      have hd' : (8 * (k : Int)) / 51 = ((8 * k / 51 : Nat) : Int) := by omega
      have hm' : (8 * (k : Int)) % 51 = ((8 * k % 51 : Nat) : Int) := by omega
      have hm51 : 8 * k % 51 < 51 := Nat.mod_lt _ (by decide)
      have hshr := shr_byte (dg n (8 * k / 51)) (8 * k % 51)
      by_cases h4 : 8 * k / 51 < 4
      · have hcl2 := hl.cell (EL_get (ofN n) (k := 8 * k / 51 + 1) (by omega))
        rw [ofN_get n (by omega)] at hcl2
        have hshl := shl_byte (dg n (8 * k / 51 + 1)) (51 - 8 * k % 51)
        have hbyt := byt_dg n k
        have hor := u8_or_nat (dg n (8 * k / 51) / 2 ^ (8 * k % 51) % 256) (dg n (8 * k / 51 + 1) * 2 ^ (51 - 8 * k % 51) % 256) (Nat.mod_lt _ (by decide)) (Nat.mod_lt _ (by decide))
        rw [hbyt] at hor
        generalize dg n (8 * k / 51) / 2 ^ (8 * k % 51) % 256 = A at *
        generalize dg n (8 * k / 51 + 1) * 2 ^ (51 - 8 * k % 51) % 256 = C at *
        generalize dg n (8 * k / 51) = D at *
        generalize hee : dg n (8 * k / 51 + 1) = E at *
        have hsub : (51 : Int) - ((8 * k % 51 : Nat) : Int) = ((51 - 8 * k % 51 : Nat) : Int) := by omega
        generalize hqq : 8 * k / 51 = q at *
        generalize hrr : 8 * k % 51 = r at *
        generalize hss : 51 - r = s at *
        clear hqq hrr
        have b0 : (0 : Int) ≤ (k : Int) := by omega
        have b1 : (k : Int) < 32 := by omega
        have b2 : (0 : Int) ≤ (q : Int) := by omega
        have b3 : (q : Int) < 5 := by omega
        have b3' : (q : Int) < 4 := by omega
        have b4 : (0 : Int) ≤ (r : Int) := by omega
        have b5 : (r : Int) < 64 := by omega
        have b6 : (0 : Int) ≤ (s : Int) := by omega
        have b7 : (s : Int) < 64 := by omega
        clear hss
        have HEE := Lib.hid hee
        clear hee
        have hw1 : IntKind.i64.wrap ((q : Nat) : Int) = (q : Int) := IntWalk.i64_in _ (by omega)
        have b8 : ((q : Int) + 1).toNat = q + 1 := by omega
        have b9 : (q : Int) + 1 < 5 := by omega
        have b10 : (0 : Int) ≤ (q : Int) + 1 := by omega
        have HSET := Lib.hid hset
        have HL2 := Lib.hid hl2
        have HRES2 := Lib.hid hres2
        have HB2 := Lib.hid hb2
        have HSHR := Lib.hid hshr
        have HSHL := Lib.hid hshl
        have HOR := Lib.hid hor
        have HDONE := Lib.hid hdone
        have HCL2 := Lib.hid hcl2
        clear hl hrow hres hbe hset hl2 hres2 hb2 hshr hshl hor hdone hbyt hcl2
        go_wp2_with fail
        rw [HSHR.out]
        have hl3 := HL2.out (.int .u8 ((A : Nat) : Int))
        have hset3 := HSET.out (.int .u8 ((A : Nat) : Int))
        have hres3 := HRES2.out (.int .u8 ((A : Nat) : Int))
        have hb3 := HB2.out (.int .u8 ((A : Nat) : Int))
        clear hold hfree hcl
        generalize wr.setCell ⟨w1.heap.size + 1, k, none⟩ (Value.int .u8 ((A : Nat) : Int)) = wx at *
        have hcx := hset3.cell (k := k) (v := .int .u8 ((A : Nat) : Int)) (by rw [List.getElem?_set, if_pos rfl, if_pos (by rw [Tab_length]; exact hlt)])
        have hfx := hset3.free k
        have hce := hl3.cell (EL_get (ofN n) (k := q + 1) (by omega))
        rw [ofN_get n (by omega)] at hce
        have hfin := hset3.set k (.int .u8 ((byt n k : Nat) : Int))
        rw [List.set_set, HDONE.out] at hfin
        have hl4 := hl3.setCell (p := ⟨w1.heap.size + 1, k, none⟩) (by show _ ≠ w1.heap.size + 1; omega) (.int .u8 ((byt n k : Nat) : Int))
        have hres4 := hres3.setCell (p := ⟨w1.heap.size + 1, k, none⟩) (by show _ ≠ w1.heap.size + 1; omega) (.int .u8 ((byt n k : Nat) : Int))
        have hb4 := hb3.setCell (p := ⟨w1.heap.size + 1, k, none⟩) (by simp; omega) (.int .u8 ((byt n k : Nat) : Int))
        rw [HEE.out] at hce
        have HFIN := Lib.hid hfin
        have HL4 := Lib.hid hl4
        have HRES4 := Lib.hid hres4
        have HB4 := Lib.hid hb4
        clear hl3 hset3 hres3 hb3 hfin hl4 hres4 hb4
        go_region
        rw [HSHL.out, HOR.out]
        generalize wx.setCell ⟨w1.heap.size + 1, k, none⟩ (Value.int .u8 ((byt n k : Nat) : Int)) = wz at *
        clear hcx hfx hce hd hm hd' hm' hsub hw1
        go_wp2_with fail
        go_roundw
        case rel => exact ⟨k + 1, by omega, by go_num, HL4.out, HFIN.out, HRES4.out, HB4.out.drew⟩
        case measure => simp [intOf]; omega
      · have h44 : 8 * k / 51 = 4 := by omega
        have hbyt := byt_dg4 HN.out h44
        rw [h44] at hshr hcl hd hd'
        rw [hbyt] at hshr
        generalize dg n 4 = D at *
        generalize hrr : 8 * k % 51 = r at *
        clear hrr
        have b0 : (0 : Int) ≤ (k : Int) := by omega
        have b1 : (k : Int) < 32 := by omega
        have b4 : (0 : Int) ≤ (r : Int) := by omega
        have b5 : (r : Int) < 64 := by omega
        have HSET := Lib.hid hset
        have HL2 := Lib.hid hl2
        have HRES2 := Lib.hid hres2
        have HB2 := Lib.hid hb2
        have HSHR := Lib.hid hshr
        have HDONE := Lib.hid hdone
        clear hl hrow hres hbe hset hl2 hres2 hb2 hshr hdone hbyt h4 h44
        go_wp2_with fail
        rw [HSHR.out]
        have hfin := HSET.out (.int .u8 ((byt n k : Nat) : Int))
        rw [HDONE.out] at hfin
        go_roundw
        case rel => exact ⟨k + 1, by omega, by go_num, HL2.out _, hfin, HRES2.out _, HB2.out _⟩
        case measure => simp [intOf]; omega
    · obtain rfl : k = 32 := by omega
      rw [Tab_done] at hrow
      rw [Tab_zero] at hres
      have hO : (List.replicate 32 (Value.int .u8 0)).toArray.size = (By n 32).toArray.size := by rw [List.size_toArray, List.size_toArray, By_length, List.length_replicate]
      have hrow2 : Row wr (w1.heap.size + 1) 22 (By n 32) := hrow
      have HROW := Lib.hid hrow2
      have HRES := Lib.hid hres
      have HBE := Lib.hid hbe
      have HO4 := Lib.hid hO
      clear hrow hrow2 hres hbe hO hl
      go_wp2_with (first
        | (refine wpList_load_row rfl 22 (.tmp 4) rfl (w1.heap.size + 1) rfl 22 _ (0, 0) _ HROW.out Tryd.underlying22 rfl (HSB.out _) ?_)
        | (refine wpList_store_row rfl 22 (.tmp 2) (.tmp 44) rfl (w.heap.size + 1) _ rfl rfl 22 _ HRES.out (HSB.out _) HO4.out (By_one _ _) ?_))
      have hgot := setRow_heap wr (w.heap.size + 1) _ (By n 32).toArray _ _ HRES.out
      refine bodyPost_ret (results_cell_row (by rfl) _ _ (w.heap.size + 1) _ _ _ _ (by rfl) hgot Tryd.underlying22 rfl (HSB.out _)) rfl ?_
      exact ⟨rfl, below_setRow HBE.out (by omega) _⟩

end Go.Proofs.YthpbipebpaeagaaDoor
