/- The statement CurveAdds: the walk. -/
import Derived.Test.YthpbipebpaeagaaDoorRs
namespace Go.Proofs.YthpbipebpaeagaaDoor
set_option maxRecDepth 100000
set_option linter.unusedSimpArgs false
set_option linter.unusedVariables false
open Go.RowKit

/-- What the document reads, where it reads one. -/
theorem drp_ref (N : Nat) (w : World) (h : decOk N = true) :
    Calls Tryd.prog 43 #[.agg (By N 32).toArray] w fun e w' => (∃ r : Rp, e = .returned (.tuple #[.agg (RL r).toArray, .bool (decOk N)]) ∧ r.ok ∧ Ir r (dcA N)) ∧ Below w.heap.size w w' := by
  refine (drx_ref N w).mono ?_
  rintro e w' ⟨⟨r, he, hr⟩, hb⟩
  refine ⟨⟨r, he, ?_, ?_⟩, hb⟩
  · rw [hr h]
    refine ⟨?_, ofB_ok _, sm_ok1⟩
    show Lm.ok (if _ then _ else _)
    split
    · exact negL_ok _
    · exact rootL_ok (frU_ok (ofB_ok _)) (frV_ok (ofB_ok _))
  · refine ir_dec h ?_ ?_ ?_
    · rw [hr h]; rfl
    · rw [hr h]; rfl
    · rw [hr h]

set_option maxHeartbeats 12800000 in
theorem adds_law (A B N : Nat) (hN : N < 256 ^ 32) (w : World) (hq : Gc w) :
    Calls Tryd.prog 11 #[.agg (By A 32).toArray, .agg (By B 32).toArray, .agg (By N 32).toArray] w fun e w' => e = .returned (.bool true) ∧ Below w.heap.size w w' := by
  have hde := fun wx hq => de_any A wx hq
  have hdf := fun wx hq => de_any B wx hq
  have hra := fun h wx => drp_ref A wx h
  have hrb := fun h wx => drp_ref B wx h
  have hia := fun h => is_dec (N := A) h
  have hib := fun h => is_dec (N := B) h
  have hP : (decPt A).ok := decPt_ok A
  have hQ : (decPt B).ok := decPt_ok B
  generalize decOk A = oa at *
  generalize decPt A = P at *
  generalize dcA A = PA at *
  generalize decOk B = ob at *
  generalize decPt B = Q at *
  generalize dcA B = QA at *
  have HDE := Lib.hid hde
  have HDF := Lib.hid hdf
  have HRA := Lib.hid hra
  have HRB := Lib.hid hrb
  have HIA := Lib.hid hia
  have HIB := Lib.hid hib
  have HN := Lib.hid hN
  have hb0 := ((Row.new w (By A 32) 22).alloc (.cells (By B 32).toArray 22)).alloc (.cells (By N 32).toArray 22)
  have hb1 := (Row.new1 w (.cells (By A 32).toArray 22) (By B 32) 22).alloc (.cells (By N 32).toArray 22)
  have hb2 := Row.new2 w (.cells (By A 32).toArray 22) (.cells (By B 32).toArray 22) (By N 32) 22
  have hw := Below.alloc3 w (.cells (By A 32).toArray 22) (.cells (By B 32).toArray 22) (.cells (By N 32).toArray 22)
  have HL0 := Lib.hid hb0
  clear hde hdf hra hrb hia hib hN
  go_enter Tryd.func11, Tryd.ntmps11
  go_wp2_with (refine wpList_load_row rfl 22 (.tmp 3) rfl w.heap.size rfl 22 _ (0, 0) _ HL0.out Tryd.underlying22 rfl (by_info _) ?_)
  clear HL0
  refine (HDE.out _ (hq.belowAll hw)).mono ?_
  rintro e W1 ⟨rfl, hb⟩
  replace hb0 := hb0.belowAll hb
  replace hb1 := hb1.belowAll hb
  replace hb2 := hb2.belowAll hb
  replace hw := hw.trans (hb.mono hw.size)
  clear hb
  have l_hb0 := hb0.lt
  have l_hb1 := hb1.lt
  have l_hb2 := hb2.lt
  have e_ := Row.new W1 (PL zeP) 58
  have h7 := e_.setRow (PL P)
  replace hb0 := (hb0.alloc (.cells (PL zeP).toArray 58)).setRowOther (k := W1.heap.size) (by omega) (PL P).toArray
  replace hb1 := (hb1.alloc (.cells (PL zeP).toArray 58)).setRowOther (k := W1.heap.size) (by omega) (PL P).toArray
  replace hb2 := (hb2.alloc (.cells (PL zeP).toArray 58)).setRowOther (k := W1.heap.size) (by omega) (PL P).toArray
  have hsz := hw.size
  replace hw := below_setRow (g := W1.heap.size) (hw.alloc hw.size (.cells (PL zeP).toArray 58)) hw.size (PL P).toArray
  have E_ := Lib.hid e_
  have H_hb1 := Lib.hid hb1
  clear e_ hsz l_hb0 l_hb1 l_hb2
  go_wp2_with (first
      | (refine wpList_store_row rfl 58 (.tmp 7) (.tmp 19) rfl W1.heap.size _ rfl rfl 58 _ E_.out (pl_info _) (PL_sz _ _) (PL_one _) ?_)
      | (refine wpList_load_row rfl 22 (.tmp 4) rfl (w.heap.size + 1) rfl 22 _ (0, 0) _ H_hb1.out Tryd.underlying22 rfl (by_info _) ?_))
  clear E_ H_hb1
  rw [z20]
  generalize (W1.alloc (.cells (PL zeP).toArray 58)).setRow W1.heap.size (PL P).toArray = V1 at *
  generalize W1.heap.size = g7 at *
  refine (HDF.out _ (hq.belowAll hw)).mono ?_
  rintro e W2 ⟨rfl, hb⟩
  replace hb0 := hb0.belowAll hb
  replace hb1 := hb1.belowAll hb
  replace hb2 := hb2.belowAll hb
  replace h7 := h7.belowAll hb
  replace hw := hw.trans (hb.mono hw.size)
  clear hb
  have l_hb0 := hb0.lt
  have l_hb1 := hb1.lt
  have l_hb2 := hb2.lt
  have l_h7 := h7.lt
  have e_ := Row.new W2 (PL zeP) 58
  have h9 := e_.setRow (PL Q)
  replace hb0 := (hb0.alloc (.cells (PL zeP).toArray 58)).setRowOther (k := W2.heap.size) (by omega) (PL Q).toArray
  replace hb1 := (hb1.alloc (.cells (PL zeP).toArray 58)).setRowOther (k := W2.heap.size) (by omega) (PL Q).toArray
  replace hb2 := (hb2.alloc (.cells (PL zeP).toArray 58)).setRowOther (k := W2.heap.size) (by omega) (PL Q).toArray
  replace h7 := (h7.alloc (.cells (PL zeP).toArray 58)).setRowOther (k := W2.heap.size) (by omega) (PL Q).toArray
  have hsz := hw.size
  replace hw := below_setRow (g := W2.heap.size) (hw.alloc hw.size (.cells (PL zeP).toArray 58)) hw.size (PL Q).toArray
  have E_ := Lib.hid e_
  have H_hb0 := Lib.hid hb0
  clear e_ hsz l_hb0 l_hb1 l_hb2 l_h7
  cases oa
  · cases ob
    · skip
      go_wp2_with (first
          | (refine wpList_store_row rfl 58 (.tmp 9) (.tmp 24) rfl W2.heap.size _ rfl rfl 58 _ E_.out (pl_info _) (PL_sz _ _) (PL_one _) ?_)
          | (refine wpList_load_row rfl 22 (.tmp 3) rfl (w.heap.size) rfl 22 _ (0, 0) _ H_hb0.out Tryd.underlying22 rfl (by_info _) ?_))
      clear E_ H_hb0
      rw [z20]
      generalize (W2.alloc (.cells (PL zeP).toArray 58)).setRow W2.heap.size (PL Q).toArray = V2 at *
      generalize W2.heap.size = g9 at *
      refine (awake6 _ (hq.belowAll hw)).mono ?_
      rintro e W9 ⟨rfl, hb⟩
      replace hw := hw.trans (hb.mono hw.size)
      clear hb
      go_wp2_with fail
      go_ret
      exact ⟨rfl, hw⟩
    · skip
      go_wp2_with (first
          | (refine wpList_store_row rfl 58 (.tmp 9) (.tmp 24) rfl W2.heap.size _ rfl rfl 58 _ E_.out (pl_info _) (PL_sz _ _) (PL_one _) ?_)
          | (refine wpList_load_row rfl 22 (.tmp 3) rfl (w.heap.size) rfl 22 _ (0, 0) _ H_hb0.out Tryd.underlying22 rfl (by_info _) ?_))
      clear E_ H_hb0
      rw [z20]
      generalize (W2.alloc (.cells (PL zeP).toArray 58)).setRow W2.heap.size (PL Q).toArray = V2 at *
      generalize W2.heap.size = g9 at *
      refine (awake6 _ (hq.belowAll hw)).mono ?_
      rintro e W9 ⟨rfl, hb⟩
      replace hw := hw.trans (hb.mono hw.size)
      clear hb
      go_wp2_with fail
      go_ret
      exact ⟨rfl, hw⟩
  · cases ob
    · skip
      go_wp2_with (first
          | (refine wpList_store_row rfl 58 (.tmp 9) (.tmp 24) rfl W2.heap.size _ rfl rfl 58 _ E_.out (pl_info _) (PL_sz _ _) (PL_one _) ?_)
          | (refine wpList_load_row rfl 22 (.tmp 3) rfl (w.heap.size) rfl 22 _ (0, 0) _ H_hb0.out Tryd.underlying22 rfl (by_info _) ?_))
      clear E_ H_hb0
      rw [z20]
      generalize (W2.alloc (.cells (PL zeP).toArray 58)).setRow W2.heap.size (PL Q).toArray = V2 at *
      generalize W2.heap.size = g9 at *
      refine (awake6 _ (hq.belowAll hw)).mono ?_
      rintro e W9 ⟨rfl, hb⟩
      replace hw := hw.trans (hb.mono hw.size)
      clear hb
      go_wp2_with fail
      go_ret
      exact ⟨rfl, hw⟩
    · skip
      go_wp2_with (first
          | (refine wpList_store_row rfl 58 (.tmp 9) (.tmp 24) rfl W2.heap.size _ rfl rfl 58 _ E_.out (pl_info _) (PL_sz _ _) (PL_one _) ?_)
          | (refine wpList_load_row rfl 22 (.tmp 3) rfl (w.heap.size) rfl 22 _ (0, 0) _ H_hb0.out Tryd.underlying22 rfl (by_info _) ?_))
      clear E_ H_hb0
      rw [z20]
      generalize (W2.alloc (.cells (PL zeP).toArray 58)).setRow W2.heap.size (PL Q).toArray = V2 at *
      generalize W2.heap.size = g9 at *
      refine (HRA.out trivial _).mono ?_
      rintro e W3 ⟨⟨x, rfl, xo, ix⟩, hb⟩
      replace hb0 := hb0.belowAll hb
      replace hb1 := hb1.belowAll hb
      replace hb2 := hb2.belowAll hb
      replace h7 := h7.belowAll hb
      replace h9 := h9.belowAll hb
      replace hw := hw.trans (hb.mono hw.size)
      clear hb
      have l_hb0 := hb0.lt
      have l_hb1 := hb1.lt
      have l_hb2 := hb2.lt
      have l_h7 := h7.lt
      have l_h9 := h9.lt
      have e_ := rl_zero_row W3
      have h11 := e_.setRow (RL x)
      replace hb0 := (hb0.alloc (.cells #[.int .u32 0, .int .u32 0, .int .u32 0, .int .u32 0, .int .u32 0, .int .u32 0, .int .u32 0, .int .u32 0, .int .u32 0, .int .u32 0, .int .u32 0, .int .u32 0, .int .u32 0, .int .u32 0, .int .u32 0, .int .u32 0, .int .u32 0, .int .u32 0, .int .u32 0, .int .u32 0, .int .u32 0, .int .u32 0, .int .u32 0, .int .u32 0] 62)).setRowOther (k := W3.heap.size) (by omega) (RL x).toArray
      replace hb1 := (hb1.alloc (.cells #[.int .u32 0, .int .u32 0, .int .u32 0, .int .u32 0, .int .u32 0, .int .u32 0, .int .u32 0, .int .u32 0, .int .u32 0, .int .u32 0, .int .u32 0, .int .u32 0, .int .u32 0, .int .u32 0, .int .u32 0, .int .u32 0, .int .u32 0, .int .u32 0, .int .u32 0, .int .u32 0, .int .u32 0, .int .u32 0, .int .u32 0, .int .u32 0] 62)).setRowOther (k := W3.heap.size) (by omega) (RL x).toArray
      replace hb2 := (hb2.alloc (.cells #[.int .u32 0, .int .u32 0, .int .u32 0, .int .u32 0, .int .u32 0, .int .u32 0, .int .u32 0, .int .u32 0, .int .u32 0, .int .u32 0, .int .u32 0, .int .u32 0, .int .u32 0, .int .u32 0, .int .u32 0, .int .u32 0, .int .u32 0, .int .u32 0, .int .u32 0, .int .u32 0, .int .u32 0, .int .u32 0, .int .u32 0, .int .u32 0] 62)).setRowOther (k := W3.heap.size) (by omega) (RL x).toArray
      replace h7 := (h7.alloc (.cells #[.int .u32 0, .int .u32 0, .int .u32 0, .int .u32 0, .int .u32 0, .int .u32 0, .int .u32 0, .int .u32 0, .int .u32 0, .int .u32 0, .int .u32 0, .int .u32 0, .int .u32 0, .int .u32 0, .int .u32 0, .int .u32 0, .int .u32 0, .int .u32 0, .int .u32 0, .int .u32 0, .int .u32 0, .int .u32 0, .int .u32 0, .int .u32 0] 62)).setRowOther (k := W3.heap.size) (by omega) (RL x).toArray
      replace h9 := (h9.alloc (.cells #[.int .u32 0, .int .u32 0, .int .u32 0, .int .u32 0, .int .u32 0, .int .u32 0, .int .u32 0, .int .u32 0, .int .u32 0, .int .u32 0, .int .u32 0, .int .u32 0, .int .u32 0, .int .u32 0, .int .u32 0, .int .u32 0, .int .u32 0, .int .u32 0, .int .u32 0, .int .u32 0, .int .u32 0, .int .u32 0, .int .u32 0, .int .u32 0] 62)).setRowOther (k := W3.heap.size) (by omega) (RL x).toArray
      have hsz := hw.size
      replace hw := below_setRow (g := W3.heap.size) (hw.alloc hw.size (.cells #[.int .u32 0, .int .u32 0, .int .u32 0, .int .u32 0, .int .u32 0, .int .u32 0, .int .u32 0, .int .u32 0, .int .u32 0, .int .u32 0, .int .u32 0, .int .u32 0, .int .u32 0, .int .u32 0, .int .u32 0, .int .u32 0, .int .u32 0, .int .u32 0, .int .u32 0, .int .u32 0, .int .u32 0, .int .u32 0, .int .u32 0, .int .u32 0] 62)) hw.size (RL x).toArray
      have E_ := Lib.hid e_
      have H_hb1 := Lib.hid hb1
      clear e_ hsz l_hb0 l_hb1 l_hb2 l_h7 l_h9
      go_wp2_with (first
          | (refine wpList_store_row rfl 62 (.tmp 11) (.tmp 36) rfl W3.heap.size _ rfl rfl 62 _ E_.out (rl_info _) (RL_sz _ _) (RL_one _) ?_)
          | (refine wpList_load_row rfl 22 (.tmp 4) rfl (w.heap.size + 1) rfl 22 _ (0, 0) _ H_hb1.out Tryd.underlying22 rfl (by_info _) ?_))
      clear E_ H_hb1
      generalize (W3.alloc (.cells #[.int .u32 0, .int .u32 0, .int .u32 0, .int .u32 0, .int .u32 0, .int .u32 0, .int .u32 0, .int .u32 0, .int .u32 0, .int .u32 0, .int .u32 0, .int .u32 0, .int .u32 0, .int .u32 0, .int .u32 0, .int .u32 0, .int .u32 0, .int .u32 0, .int .u32 0, .int .u32 0, .int .u32 0, .int .u32 0, .int .u32 0, .int .u32 0] 62)).setRow W3.heap.size (RL x).toArray = V3 at *
      generalize W3.heap.size = g11 at *
      refine (HRB.out trivial _).mono ?_
      rintro e W4 ⟨⟨y, rfl, yo, iy⟩, hb⟩
      replace hb0 := hb0.belowAll hb
      replace hb1 := hb1.belowAll hb
      replace hb2 := hb2.belowAll hb
      replace h7 := h7.belowAll hb
      replace h9 := h9.belowAll hb
      replace h11 := h11.belowAll hb
      replace hw := hw.trans (hb.mono hw.size)
      clear hb
      have l_hb0 := hb0.lt
      have l_hb1 := hb1.lt
      have l_hb2 := hb2.lt
      have l_h7 := h7.lt
      have l_h9 := h9.lt
      have l_h11 := h11.lt
      have e_ := rl_zero_row W4
      have h13 := e_.setRow (RL y)
      replace hb0 := (hb0.alloc (.cells #[.int .u32 0, .int .u32 0, .int .u32 0, .int .u32 0, .int .u32 0, .int .u32 0, .int .u32 0, .int .u32 0, .int .u32 0, .int .u32 0, .int .u32 0, .int .u32 0, .int .u32 0, .int .u32 0, .int .u32 0, .int .u32 0, .int .u32 0, .int .u32 0, .int .u32 0, .int .u32 0, .int .u32 0, .int .u32 0, .int .u32 0, .int .u32 0] 62)).setRowOther (k := W4.heap.size) (by omega) (RL y).toArray
      replace hb1 := (hb1.alloc (.cells #[.int .u32 0, .int .u32 0, .int .u32 0, .int .u32 0, .int .u32 0, .int .u32 0, .int .u32 0, .int .u32 0, .int .u32 0, .int .u32 0, .int .u32 0, .int .u32 0, .int .u32 0, .int .u32 0, .int .u32 0, .int .u32 0, .int .u32 0, .int .u32 0, .int .u32 0, .int .u32 0, .int .u32 0, .int .u32 0, .int .u32 0, .int .u32 0] 62)).setRowOther (k := W4.heap.size) (by omega) (RL y).toArray
      replace hb2 := (hb2.alloc (.cells #[.int .u32 0, .int .u32 0, .int .u32 0, .int .u32 0, .int .u32 0, .int .u32 0, .int .u32 0, .int .u32 0, .int .u32 0, .int .u32 0, .int .u32 0, .int .u32 0, .int .u32 0, .int .u32 0, .int .u32 0, .int .u32 0, .int .u32 0, .int .u32 0, .int .u32 0, .int .u32 0, .int .u32 0, .int .u32 0, .int .u32 0, .int .u32 0] 62)).setRowOther (k := W4.heap.size) (by omega) (RL y).toArray
      replace h7 := (h7.alloc (.cells #[.int .u32 0, .int .u32 0, .int .u32 0, .int .u32 0, .int .u32 0, .int .u32 0, .int .u32 0, .int .u32 0, .int .u32 0, .int .u32 0, .int .u32 0, .int .u32 0, .int .u32 0, .int .u32 0, .int .u32 0, .int .u32 0, .int .u32 0, .int .u32 0, .int .u32 0, .int .u32 0, .int .u32 0, .int .u32 0, .int .u32 0, .int .u32 0] 62)).setRowOther (k := W4.heap.size) (by omega) (RL y).toArray
      replace h9 := (h9.alloc (.cells #[.int .u32 0, .int .u32 0, .int .u32 0, .int .u32 0, .int .u32 0, .int .u32 0, .int .u32 0, .int .u32 0, .int .u32 0, .int .u32 0, .int .u32 0, .int .u32 0, .int .u32 0, .int .u32 0, .int .u32 0, .int .u32 0, .int .u32 0, .int .u32 0, .int .u32 0, .int .u32 0, .int .u32 0, .int .u32 0, .int .u32 0, .int .u32 0] 62)).setRowOther (k := W4.heap.size) (by omega) (RL y).toArray
      replace h11 := (h11.alloc (.cells #[.int .u32 0, .int .u32 0, .int .u32 0, .int .u32 0, .int .u32 0, .int .u32 0, .int .u32 0, .int .u32 0, .int .u32 0, .int .u32 0, .int .u32 0, .int .u32 0, .int .u32 0, .int .u32 0, .int .u32 0, .int .u32 0, .int .u32 0, .int .u32 0, .int .u32 0, .int .u32 0, .int .u32 0, .int .u32 0, .int .u32 0, .int .u32 0] 62)).setRowOther (k := W4.heap.size) (by omega) (RL y).toArray
      have hsz := hw.size
      replace hw := below_setRow (g := W4.heap.size) (hw.alloc hw.size (.cells #[.int .u32 0, .int .u32 0, .int .u32 0, .int .u32 0, .int .u32 0, .int .u32 0, .int .u32 0, .int .u32 0, .int .u32 0, .int .u32 0, .int .u32 0, .int .u32 0, .int .u32 0, .int .u32 0, .int .u32 0, .int .u32 0, .int .u32 0, .int .u32 0, .int .u32 0, .int .u32 0, .int .u32 0, .int .u32 0, .int .u32 0, .int .u32 0] 62)) hw.size (RL y).toArray
      have E_ := Lib.hid e_
      clear e_ hsz l_hb0 l_hb1 l_hb2 l_h7 l_h9 l_h11
      go_wp2_with (first
          | (refine wpList_store_row rfl 62 (.tmp 13) (.tmp 41) rfl W4.heap.size _ rfl rfl 62 _ E_.out (rl_info _) (RL_sz _ _) (RL_one _) ?_))
      clear E_ 
      generalize (W4.alloc (.cells #[.int .u32 0, .int .u32 0, .int .u32 0, .int .u32 0, .int .u32 0, .int .u32 0, .int .u32 0, .int .u32 0, .int .u32 0, .int .u32 0, .int .u32 0, .int .u32 0, .int .u32 0, .int .u32 0, .int .u32 0, .int .u32 0, .int .u32 0, .int .u32 0, .int .u32 0, .int .u32 0, .int .u32 0, .int .u32 0, .int .u32 0, .int .u32 0] 62)).setRow W4.heap.size (RL y).toArray = V4 at *
      generalize W4.heap.size = g13 at *
      refine (d_ref _).mono ?_
      rintro e W5 ⟨rfl, hb⟩
      replace hb0 := hb0.belowAll hb
      replace hb1 := hb1.belowAll hb
      replace hb2 := hb2.belowAll hb
      replace h7 := h7.belowAll hb
      replace h9 := h9.belowAll hb
      replace h11 := h11.belowAll hb
      replace h13 := h13.belowAll hb
      replace hw := hw.trans (hb.mono hw.size)
      clear hb
      have l_hb0 := hb0.lt
      have l_hb1 := hb1.lt
      have l_hb2 := hb2.lt
      have l_h7 := h7.lt
      have l_h9 := h9.lt
      have l_h11 := h11.lt
      have l_h13 := h13.lt
      have e_ := nw_zero_row W5
      have h15 := e_.setRow (Nw (nu dL))
      replace hb0 := (hb0.alloc (.cells #[.int .u32 0, .int .u32 0, .int .u32 0, .int .u32 0, .int .u32 0, .int .u32 0, .int .u32 0, .int .u32 0] 30)).setRowOther (k := W5.heap.size) (by omega) (Nw (nu dL)).toArray
      replace hb1 := (hb1.alloc (.cells #[.int .u32 0, .int .u32 0, .int .u32 0, .int .u32 0, .int .u32 0, .int .u32 0, .int .u32 0, .int .u32 0] 30)).setRowOther (k := W5.heap.size) (by omega) (Nw (nu dL)).toArray
      replace hb2 := (hb2.alloc (.cells #[.int .u32 0, .int .u32 0, .int .u32 0, .int .u32 0, .int .u32 0, .int .u32 0, .int .u32 0, .int .u32 0] 30)).setRowOther (k := W5.heap.size) (by omega) (Nw (nu dL)).toArray
      replace h7 := (h7.alloc (.cells #[.int .u32 0, .int .u32 0, .int .u32 0, .int .u32 0, .int .u32 0, .int .u32 0, .int .u32 0, .int .u32 0] 30)).setRowOther (k := W5.heap.size) (by omega) (Nw (nu dL)).toArray
      replace h9 := (h9.alloc (.cells #[.int .u32 0, .int .u32 0, .int .u32 0, .int .u32 0, .int .u32 0, .int .u32 0, .int .u32 0, .int .u32 0] 30)).setRowOther (k := W5.heap.size) (by omega) (Nw (nu dL)).toArray
      replace h11 := (h11.alloc (.cells #[.int .u32 0, .int .u32 0, .int .u32 0, .int .u32 0, .int .u32 0, .int .u32 0, .int .u32 0, .int .u32 0] 30)).setRowOther (k := W5.heap.size) (by omega) (Nw (nu dL)).toArray
      replace h13 := (h13.alloc (.cells #[.int .u32 0, .int .u32 0, .int .u32 0, .int .u32 0, .int .u32 0, .int .u32 0, .int .u32 0, .int .u32 0] 30)).setRowOther (k := W5.heap.size) (by omega) (Nw (nu dL)).toArray
      have hsz := hw.size
      replace hw := below_setRow (g := W5.heap.size) (hw.alloc hw.size (.cells #[.int .u32 0, .int .u32 0, .int .u32 0, .int .u32 0, .int .u32 0, .int .u32 0, .int .u32 0, .int .u32 0] 30)) hw.size (Nw (nu dL)).toArray
      have E_ := Lib.hid e_
      clear e_ hsz l_hb0 l_hb1 l_hb2 l_h7 l_h9 l_h11 l_h13
      go_wp2_with (first
          | (refine wpList_store_row rfl 30 (.tmp 15) (.tmp 43) rfl W5.heap.size _ rfl rfl 30 _ E_.out (nw_info _) (Nw_sz _ _) (Nw_one _) ?_))
      clear E_ 
      generalize (W5.alloc (.cells #[.int .u32 0, .int .u32 0, .int .u32 0, .int .u32 0, .int .u32 0, .int .u32 0, .int .u32 0, .int .u32 0] 30)).setRow W5.heap.size (Nw (nu dL)).toArray = V5 at *
      generalize W5.heap.size = g15 at *
      have iP := HIA.out trivial
      have iQ := HIB.out trivial
      have hN : N < 2 ^ 256 := Nat.lt_of_lt_of_eq HN.out (by decide)
      have e1 : ptN (adP P Q) = ptR (radP x y dL) := (is_told (is_ad hP hQ iP iQ)).trans (ir_told (ir_ad xo yo ix iy)).symm
      have e2 : ptN (doP P) = ptR (radP x x dL) := (is_told (is_do hP iP)).trans (ir_told (ir_ad xo xo ix ix)).symm
      have e3 : ptN (muP P N) = ptR (rmuP x N) := (is_told (is_mu hP hN iP)).trans (ir_told (ir_mu xo hN ix)).symm
      clear iP iQ ix iy hN
      refine wp_flat_none (aD := ?aDq1) (S := fun w' => Below V5.heap.size V5 w')
        (vs := [(0, .agg (PL P).toArray), (1, .agg (PL Q).toArray), (2, .agg (PL (adP P Q)).toArray), (3, .agg (By (ptN (adP P Q)) 32).toArray), (4, .agg (RL x).toArray), (5, .agg (RL y).toArray), (6, .agg (Nw (nu dL)).toArray), (7, .agg (RL (radP x y dL)).toArray), (8, .agg (By (ptR (radP x y dL)) 32).toArray), (9, .bool true), (10, .bool true), (11, .agg (PL P).toArray), (12, .agg (PL (doP P)).toArray), (13, .agg (By (ptN (doP P)) 32).toArray), (14, .agg (RL x).toArray), (15, .agg (RL x).toArray), (16, .agg (Nw (nu dL)).toArray), (17, .agg (RL (radP x x dL)).toArray), (18, .agg (By (ptR (radP x x dL)) 32).toArray), (19, .bool true), (20, .bool true), (21, .bool true), (22, .agg (PL P).toArray), (23, .agg (By N 32).toArray), (24, .agg (PL (muP P N)).toArray), (25, .agg (By (ptN (muP P N)) 32).toArray), (26, .agg (RL x).toArray), (27, .agg (By N 32).toArray), (28, .agg (RL (rmuP x N)).toArray), (29, .agg (By (ptR (rmuP x N)) 32).toArray), (30, .bool true), (31, .bool true), (32, .bool true), (33, .bool true), (34, .bool true), (35, .bool true)]) (by kernel_rfl) ((Below.refl _ _).drew) (fun _ _ h k => S_trans h k) ?hDq1 ?hkq1 ?hq1
      case hDq1 =>
        refine .step (some 44) rfl rfl (by kernel_rfl) (Gives.load_row 58 (.tmp 7) rfl (g7) rfl 58 _ (fun w' h => h7.belowAll h) Tryd.underlying58 rfl (pl_info _)) ?_
        simp only [Act.put, List.setIfInBounds_toArray, List.set_cons_zero, List.set_cons_succ]
        refine .step (some 45) rfl rfl (by kernel_rfl) (Gives.load_row 58 (.tmp 9) rfl (g9) rfl 58 _ (fun w' h => h9.belowAll h) Tryd.underlying58 rfl (pl_info _)) ?_
        simp only [Act.put, List.setIfInBounds_toArray, List.set_cons_zero, List.set_cons_succ]
        refine .step (some 46) rfl rfl (by kernel_rfl) (Gives.call (args := [.agg (PL P).toArray, .agg (PL Q).toArray]) rfl Tryd.func53 (by kernel_rfl) (by kernel_rfl) rfl (fun w' h => ad_any hP hQ w' ((hq.belowAll hw).belowAll h))) ?_
        simp only [Act.put, List.setIfInBounds_toArray, List.set_cons_zero, List.set_cons_succ]
        refine .step (some 47) rfl rfl (by kernel_rfl) (Gives.call (args := [.agg (PL (adP P Q)).toArray]) rfl Tryd.func47 (by kernel_rfl) (by kernel_rfl) rfl (fun w' h => by_any (adP_ok hP hQ) w' ((hq.belowAll hw).belowAll h))) ?_
        simp only [Act.put, List.setIfInBounds_toArray, List.set_cons_zero, List.set_cons_succ]
        refine .step (some 48) rfl rfl (by kernel_rfl) (Gives.load_row 62 (.tmp 11) rfl (g11) rfl 62 _ (fun w' h => h11.belowAll h) Tryd.underlying62 rfl (rl_info _)) ?_
        simp only [Act.put, List.setIfInBounds_toArray, List.set_cons_zero, List.set_cons_succ]
        refine .step (some 49) rfl rfl (by kernel_rfl) (Gives.load_row 62 (.tmp 13) rfl (g13) rfl 62 _ (fun w' h => h13.belowAll h) Tryd.underlying62 rfl (rl_info _)) ?_
        simp only [Act.put, List.setIfInBounds_toArray, List.set_cons_zero, List.set_cons_succ]
        refine .step (some 50) rfl rfl (by kernel_rfl) (Gives.load_row 30 (.tmp 15) rfl (g15) rfl 30 _ (fun w' h => h15.belowAll h) Tryd.underlying30 rfl (nw_info _)) ?_
        simp only [Act.put, List.setIfInBounds_toArray, List.set_cons_zero, List.set_cons_succ]
        refine .step (some 51) rfl rfl (by kernel_rfl) (Gives.call (args := [.agg (RL x).toArray, .agg (RL y).toArray, .agg (Nw (nu dL)).toArray]) rfl Tryd.func54 (by kernel_rfl) (by kernel_rfl) rfl (fun w' h => addp_ref xo yo dL_ok w')) ?_
        simp only [Act.put, List.setIfInBounds_toArray, List.set_cons_zero, List.set_cons_succ]
        refine .step (some 52) rfl rfl (by kernel_rfl) (Gives.call (args := [.agg (RL (radP x y dL)).toArray]) rfl Tryd.func49 (by kernel_rfl) (by kernel_rfl) rfl (fun w' h => bytp_ref (radP x y dL) w')) ?_
        simp only [Act.put, List.setIfInBounds_toArray, List.set_cons_zero, List.set_cons_succ]
        refine .step (some 53) rfl rfl (by kernel_rfl) (Gives.binop .eql 22 22 (.tmp 47) (.tmp 52) rfl (.agg (By (ptN (adP P Q)) 32).toArray) (.agg (By (ptR (radP x y dL)) 32).toArray) _ rfl rfl (fun w' => bgrd _ _ _ _ _ w') (fun w' => beq_same e1 w')) ?_
        simp only [Act.put, List.setIfInBounds_toArray, List.set_cons_zero, List.set_cons_succ]
        refine .step (some 54) rfl rfl (by kernel_rfl) (Gives.move (x := (.tmp 53)) rfl rfl) ?_
        simp only [Act.put, List.setIfInBounds_toArray, List.set_cons_zero, List.set_cons_succ]
        refine .step (some 55) rfl rfl (by kernel_rfl) (Gives.load_row 58 (.tmp 7) rfl (g7) rfl 58 _ (fun w' h => h7.belowAll h) Tryd.underlying58 rfl (pl_info _)) ?_
        simp only [Act.put, List.setIfInBounds_toArray, List.set_cons_zero, List.set_cons_succ]
        refine .step (some 56) rfl rfl (by kernel_rfl) (Gives.call (args := [.agg (PL P).toArray]) rfl Tryd.func55 (by kernel_rfl) (by kernel_rfl) rfl (fun w' h => do_any hP w' ((hq.belowAll hw).belowAll h))) ?_
        simp only [Act.put, List.setIfInBounds_toArray, List.set_cons_zero, List.set_cons_succ]
        refine .step (some 57) rfl rfl (by kernel_rfl) (Gives.call (args := [.agg (PL (doP P)).toArray]) rfl Tryd.func47 (by kernel_rfl) (by kernel_rfl) rfl (fun w' h => by_any (doP_ok hP) w' ((hq.belowAll hw).belowAll h))) ?_
        simp only [Act.put, List.setIfInBounds_toArray, List.set_cons_zero, List.set_cons_succ]
        refine .step (some 58) rfl rfl (by kernel_rfl) (Gives.load_row 62 (.tmp 11) rfl (g11) rfl 62 _ (fun w' h => h11.belowAll h) Tryd.underlying62 rfl (rl_info _)) ?_
        simp only [Act.put, List.setIfInBounds_toArray, List.set_cons_zero, List.set_cons_succ]
        refine .step (some 59) rfl rfl (by kernel_rfl) (Gives.load_row 62 (.tmp 11) rfl (g11) rfl 62 _ (fun w' h => h11.belowAll h) Tryd.underlying62 rfl (rl_info _)) ?_
        simp only [Act.put, List.setIfInBounds_toArray, List.set_cons_zero, List.set_cons_succ]
        refine .step (some 60) rfl rfl (by kernel_rfl) (Gives.load_row 30 (.tmp 15) rfl (g15) rfl 30 _ (fun w' h => h15.belowAll h) Tryd.underlying30 rfl (nw_info _)) ?_
        simp only [Act.put, List.setIfInBounds_toArray, List.set_cons_zero, List.set_cons_succ]
        refine .step (some 61) rfl rfl (by kernel_rfl) (Gives.call (args := [.agg (RL x).toArray, .agg (RL x).toArray, .agg (Nw (nu dL)).toArray]) rfl Tryd.func54 (by kernel_rfl) (by kernel_rfl) rfl (fun w' h => addp_ref xo xo dL_ok w')) ?_
        simp only [Act.put, List.setIfInBounds_toArray, List.set_cons_zero, List.set_cons_succ]
        refine .step (some 62) rfl rfl (by kernel_rfl) (Gives.call (args := [.agg (RL (radP x x dL)).toArray]) rfl Tryd.func49 (by kernel_rfl) (by kernel_rfl) rfl (fun w' h => bytp_ref (radP x x dL) w')) ?_
        simp only [Act.put, List.setIfInBounds_toArray, List.set_cons_zero, List.set_cons_succ]
        refine .step (some 63) rfl rfl (by kernel_rfl) (Gives.binop .eql 22 22 (.tmp 57) (.tmp 62) rfl (.agg (By (ptN (doP P)) 32).toArray) (.agg (By (ptR (radP x x dL)) 32).toArray) _ rfl rfl (fun w' => bgrd _ _ _ _ _ w') (fun w' => beq_same e2 w')) ?_
        simp only [Act.put, List.setIfInBounds_toArray, List.set_cons_zero, List.set_cons_succ]
        refine .step (some 64) rfl rfl (by kernel_rfl) (Gives.pick (.tmp 54) (.tmp 63) (.const (.bool false)) rfl true (.bool true) rfl rfl) ?_
        simp only [Act.put, List.setIfInBounds_toArray, List.set_cons_zero, List.set_cons_succ]
        refine .step (some 65) rfl rfl (by kernel_rfl) (Gives.move (x := (.tmp 64)) rfl rfl) ?_
        simp only [Act.put, List.setIfInBounds_toArray, List.set_cons_zero, List.set_cons_succ]
        refine .step (some 66) rfl rfl (by kernel_rfl) (Gives.load_row 58 (.tmp 7) rfl (g7) rfl 58 _ (fun w' h => h7.belowAll h) Tryd.underlying58 rfl (pl_info _)) ?_
        simp only [Act.put, List.setIfInBounds_toArray, List.set_cons_zero, List.set_cons_succ]
        refine .step (some 67) rfl rfl (by kernel_rfl) (Gives.load_row 22 (.tmp 5) rfl (w.heap.size + 1 + 1) rfl 22 _ (fun w' h => hb2.belowAll h) Tryd.underlying22 rfl (by_info _)) ?_
        simp only [Act.put, List.setIfInBounds_toArray, List.set_cons_zero, List.set_cons_succ]
        refine .step (some 68) rfl rfl (by kernel_rfl) (Gives.call (args := [.agg (PL P).toArray, .agg (By N 32).toArray]) rfl Tryd.func56 (by kernel_rfl) (by kernel_rfl) rfl (fun w' h => mu_any hP N w' ((hq.belowAll hw).belowAll h))) ?_
        simp only [Act.put, List.setIfInBounds_toArray, List.set_cons_zero, List.set_cons_succ]
        refine .step (some 69) rfl rfl (by kernel_rfl) (Gives.call (args := [.agg (PL (muP P N)).toArray]) rfl Tryd.func47 (by kernel_rfl) (by kernel_rfl) rfl (fun w' h => by_any (muP_ok hP N) w' ((hq.belowAll hw).belowAll h))) ?_
        simp only [Act.put, List.setIfInBounds_toArray, List.set_cons_zero, List.set_cons_succ]
        refine .step (some 70) rfl rfl (by kernel_rfl) (Gives.load_row 62 (.tmp 11) rfl (g11) rfl 62 _ (fun w' h => h11.belowAll h) Tryd.underlying62 rfl (rl_info _)) ?_
        simp only [Act.put, List.setIfInBounds_toArray, List.set_cons_zero, List.set_cons_succ]
        refine .step (some 71) rfl rfl (by kernel_rfl) (Gives.load_row 22 (.tmp 5) rfl (w.heap.size + 1 + 1) rfl 22 _ (fun w' h => hb2.belowAll h) Tryd.underlying22 rfl (by_info _)) ?_
        simp only [Act.put, List.setIfInBounds_toArray, List.set_cons_zero, List.set_cons_succ]
        refine .step (some 72) rfl rfl (by kernel_rfl) (Gives.call (args := [.agg (RL x).toArray, .agg (By N 32).toArray]) rfl Tryd.func57 (by kernel_rfl) (by kernel_rfl) rfl (fun w' h => mup_ref xo N w')) ?_
        simp only [Act.put, List.setIfInBounds_toArray, List.set_cons_zero, List.set_cons_succ]
        refine .step (some 73) rfl rfl (by kernel_rfl) (Gives.call (args := [.agg (RL (rmuP x N)).toArray]) rfl Tryd.func49 (by kernel_rfl) (by kernel_rfl) rfl (fun w' h => bytp_ref (rmuP x N) w')) ?_
        simp only [Act.put, List.setIfInBounds_toArray, List.set_cons_zero, List.set_cons_succ]
        refine .step (some 74) rfl rfl (by kernel_rfl) (Gives.binop .eql 22 22 (.tmp 69) (.tmp 73) rfl (.agg (By (ptN (muP P N)) 32).toArray) (.agg (By (ptR (rmuP x N)) 32).toArray) _ rfl rfl (fun w' => bgrd _ _ _ _ _ w') (fun w' => beq_same e3 w')) ?_
        simp only [Act.put, List.setIfInBounds_toArray, List.set_cons_zero, List.set_cons_succ]
        refine .step (some 75) rfl rfl (by kernel_rfl) (Gives.pick (.tmp 65) (.tmp 74) (.const (.bool false)) rfl true (.bool true) rfl rfl) ?_
        simp only [Act.put, List.setIfInBounds_toArray, List.set_cons_zero, List.set_cons_succ]
        refine .step (some 76) rfl rfl (by kernel_rfl) (Gives.move (x := (.tmp 75)) rfl rfl) ?_
        simp only [Act.put, List.setIfInBounds_toArray, List.set_cons_zero, List.set_cons_succ]
        refine .step (some 77) rfl rfl (by kernel_rfl) (Gives.call (args := []) rfl Tryd.func46 (by kernel_rfl) (by kernel_rfl) rfl (fun w' h => awake6 w' ((hq.belowAll hw).belowAll h))) ?_
        simp only [Act.put, List.setIfInBounds_toArray, List.set_cons_zero, List.set_cons_succ]
        refine .step (some 78) rfl rfl (by kernel_rfl) (Gives.pick (.tmp 76) (.tmp 77) (.const (.bool false)) rfl true (.bool true) rfl rfl) ?_
        simp only [Act.put, List.setIfInBounds_toArray, List.set_cons_zero, List.set_cons_succ]
        refine .step (some 6) rfl rfl (by kernel_rfl) (Gives.assign (x := (.tmp 78)) rfl rfl) ?_
        simp only [Act.put, List.setIfInBounds_toArray, List.set_cons_zero, List.set_cons_succ]
        exact .nil
      case hkq1 => kernel_rfl
      case hq1 =>
      intro Wq1 hb
      replace hb2 := hb2.belowAll hb
      replace h7 := h7.belowAll hb
      replace h9 := h9.belowAll hb
      replace h11 := h11.belowAll hb
      replace h13 := h13.belowAll hb
      replace h15 := h15.belowAll hb
      replace hw := hw.trans (hb.mono hw.size)
      clear hb
      go_wp2_with fail
      go_ret
      exact ⟨rfl, hw⟩

end Go.Proofs.YthpbipebpaeagaaDoor
