/- field's Root. -/
import Derived.Test.YthpbipebpaeagaaDoorRootA
namespace Go.Proofs.YthpbipebpaeagaaDoor
set_option maxRecDepth 100000
set_option linter.unusedSimpArgs false
open Go.RowKit

/-- The root of -1, as it lies. -/
def Rm (w : World) : Prop := ∃ t, w.heap[1]? = some (.cells (EL rtL).toArray t (0, 0))
theorem Rm.lt {w : World} (h : Rm w) : 1 < w.heap.size := by
  obtain ⟨t, h⟩ := h
  exact (Array.getElem?_eq_some_iff.1 h).1
theorem Rm.belowAll {w w' : World} (h : Rm w) (hb : Below w.heap.size w w') : Rm w' := by
  have hl := h.lt
  obtain ⟨t, h⟩ := h
  exact ⟨t, (hb.block _ hl).trans h⟩
/-- Both tables. -/
structure Gl (w : World) : Prop where
  en : En w
  rm : Rm w
theorem Gl.belowAll {w w' : World} (h : Gl w) (hb : Below w.heap.size w w') : Gl w' := ⟨h.en.belowAll hb, h.rm.belowAll hb⟩
/-- A guarded load of a row. -/
theorem wpList_load_guarded {P : Program} {ops : Array Oper} {rest : List Oper} {o : Oper} {a : Act} {w : World} {Q : Exit → Act → World → Prop} (hw : Region.wanted o (yielded ops a.tmps) = true) (ty : TypeId) (x : Operand) (ho : o.op = .load ty x)
    (g : Nat) (hx : a.eval x = .pointer (some ⟨g, 0, none⟩)) (T : TypeId) (l : List Value) (hr : Row w g T l) {d : TypeDesc}
    (hu : P.underlying ty = some d) (hd : (match d with | .struct _ | .array _ _ => true | _ => false) = true) (hi : (P.info? ty).map (·.size) = some l.toArray.size)
    (h : wpList P ops Q rest (a.put o.dst (.agg l.toArray)) w) : wpList P ops Q (o :: rest) a w :=
  BigFrame.wpList_want hw fun _ hK => wp_load_row ty x ho g hx T _ (0, 0) _ hr hu hd hi (hK _ _ h)

set_option maxHeartbeats 1600000 in
theorem root_any {u v : Lm} (hu : u.ok) (hv : v.ok) (w : World) (hq : Gl w) :
    Calls Tryd.prog 40 #[.agg (EL u).toArray, .agg (EL v).toArray] w fun e w' => e = .returned (.tuple #[.agg (EL (rootL u v)).toArray, .bool (rootOk u v)]) ∧ Below w.heap.size w w' := by
  have HROK := Lib.hid (root1_ok hu hv)
  have HCOK := Lib.hid (candL_ok hu hv)
  have HS4 := Lib.hid el_info
  have HS5 := Lib.hid l5_info
  have hq0 := hq
  have hr2 : Row (((w.alloc (.cells (EL u).toArray 26)).alloc (.cells (EL v).toArray 26)).alloc (.cells (EL zeL).toArray 26)) w.heap.size 26 (EL u) := ((Row.new w (EL u) 26).alloc _).alloc _
  have hr3 : Row (((w.alloc (.cells (EL u).toArray 26)).alloc (.cells (EL v).toArray 26)).alloc (.cells (EL zeL).toArray 26)) (w.heap.size + 1) 26 (EL v) := (Row.new1 w _ (EL v) 26).alloc _
  have hr4 := Row.new2 w (.cells (EL u).toArray 26) (.cells (EL v).toArray 26) (EL zeL) 26
  have hb0 := Below.alloc3 w (.cells (EL u).toArray 26) (.cells (EL v).toArray 26) (.cells (EL zeL).toArray 26)
  have hgl := hq.belowAll hb0
  have hs0 : (((w.alloc (.cells (EL u).toArray 26)).alloc (.cells (EL v).toArray 26)).alloc (.cells (EL zeL).toArray 26)).heap.size = w.heap.size + 1 + 1 + 1 := by simp
  have HR2 := Lib.hid hr2
  have HR3 := Lib.hid hr3
  have HR4 := Lib.hid hr4
  have HB0 := Lib.hid hb0
  have HGL := Lib.hid hgl
  have HS0 := Lib.hid hs0
  clear hr2 hr3 hr4 hb0 hgl hq hs0
  go_enter Tryd.func40, Tryd.ntmps40
  go_wp2_with (first
    | (refine wpList_load_row rfl 26 (.tmp 2) rfl w.heap.size rfl 26 _ (0, 0) _ HR2.out Tryd.underlying26 rfl (HS4.out _) ?_)
    | (refine wpList_load_row rfl 26 (.tmp 3) rfl (w.heap.size + 1) rfl 26 _ (0, 0) _ HR3.out Tryd.underlying26 rfl (HS4.out _) ?_))
  refine (cand_any hu hv _).mono ?_
  rintro e w1 ⟨rfl, hb1⟩
  have hs1 : w.heap.size + 1 + 1 + 1 ≤ w1.heap.size := by rw [← HS0.out]; exact hb1.size
  have a2 := ((HR2.out.belowAll hb1).alloc (.cells (EL zeL).toArray 26)).setRowOther (k := w1.heap.size) (by omega) (EL (candL u v)).toArray
  have a3 := ((HR3.out.belowAll hb1).alloc (.cells (EL zeL).toArray 26)).setRowOther (k := w1.heap.size) (by omega) (EL (candL u v)).toArray
  have a4 := ((HR4.out.belowAll hb1).alloc (.cells (EL zeL).toArray 26)).setRowOther (k := w1.heap.size) (by omega) (EL (candL u v)).toArray
  have a60 := Row.new w1 (EL zeL) 26
  have a6 := a60.setRow (EL (candL u v))
  have ab0 := HB0.out.trans (hb1.mono HB0.out.size)
  have ab := below_setRow (g := w1.heap.size) (ab0.alloc (by omega) (.cells (EL zeL).toArray 26)) (by omega) (EL (candL u v)).toArray
  have agl : Gl ((w1.alloc (.cells (EL zeL).toArray 26)).setRow w1.heap.size (EL (candL u v)).toArray) := by
    have g1 := HGL.out.belowAll hb1
    exact g1.belowAll (below_setRow ((Below.refl w1.heap.size w1).alloc (Nat.le_refl _) _) (Nat.le_refl _) _)
  have A60 := Lib.hid a60
  have A2 := Lib.hid a2
  have A3 := Lib.hid a3
  have A4 := Lib.hid a4
  have A6 := Lib.hid a6
  have AB := Lib.hid ab
  have AGL := Lib.hid agl
  have AS := Lib.hid hs1
  clear hb1 hs1 a2 a3 a4 a60 a6 ab0 ab agl HR2 HR3 HR4 HB0 HGL HS0
  go_wp2_with (first
    | (refine wpList_store_row rfl 26 (.tmp 6) (.tmp 9) rfl w1.heap.size _ rfl rfl 26 _ A60.out (HS4.out _) (EL_sz _ _) (EL_one _) ?_)
    | (refine wpList_load_row rfl 26 (.tmp 6) rfl w1.heap.size rfl 26 _ (0, 0) _ A6.out Tryd.underlying26 rfl (HS4.out _) ?_)
    | (refine wpList_load_row rfl 26 (.tmp 2) rfl w.heap.size rfl 26 _ (0, 0) _ A2.out Tryd.underlying26 rfl (HS4.out _) ?_)
    | (refine wpList_load_row rfl 26 (.tmp 3) rfl (w.heap.size + 1) rfl 26 _ (0, 0) _ A3.out Tryd.underlying26 rfl (HS4.out _) ?_))
  refine (fits_any HCOK.out hu hv _).mono ?_
  rintro e w3 ⟨rfl, hb3⟩
  have C2 := Lib.hid (A2.out.belowAll hb3)
  have C3 := Lib.hid (A3.out.belowAll hb3)
  have C4 := Lib.hid (A4.out.belowAll hb3)
  have C6 := Lib.hid (A6.out.belowAll hb3)
  have CB := Lib.hid (AB.out.trans (hb3.mono AB.out.size))
  have CGL := Lib.hid (AGL.out.belowAll hb3)
  clear hb3 A2 A3 A4 A6 A60 AB AGL
  cases hf0 : fitB (candL u v) u v with
  | true =>
    have hr1 : root1 u v = candL u v := by unfold root1; rw [hf0]; rfl
    rw [← hr1] at C6
    clear hr1
    have CEN := Lib.hid CGL.out.en
    -- region 4 on: r is what it is
    have HZ := Lib.hid (zero_any hv)
    cases hz : decide (nu v = 0) with
    | true =>
      have hok : rootOk u v = false := by unfold rootOk; rw [hz]; rfl
      have hrt : rootL u v = zeL := by unfold rootL; rw [hok]; rfl
      go_wp2_with (refine wpList_load_row rfl 26 (.tmp 3) rfl (w.heap.size + 1) rfl 26 _ (0, 0) _ C3.out Tryd.underlying26 rfl (HS4.out _) ?_)
      refine (HZ.out _).mono ?_
      rintro e w7 ⟨rfl, hb7⟩
      rw [hz]
      have hres7 := C4.out.belowAll hb7
      have hw7 := CB.out.trans (hb7.mono CB.out.size)
      clear hb7
      go_wp2_with (first
        | (refine wpList_build0 rfl 26 rfl (.agg (EL zeL).toArray) (el_zero _) ?_)
        | (refine wpList_store_row rfl 26 (.tmp 4) (.tmp 28) rfl (w.heap.size + 1 + 1) _ rfl rfl 26 _ hres7 (HS4.out _) (EL_sz _ _) (EL_one _) ?_))
      refine bodyPost_ret (results_row_slot (by rfl) _ _ (w.heap.size + 1 + 1) _ _ _ _ _ (by rfl) (setRow_heap w7 (w.heap.size + 1 + 1) _ (EL zeL).toArray _ _ hres7) Tryd.underlying26 rfl (HS4.out _) (by rfl)) rfl ?_
      exact ⟨by rw [hrt, hok]; rfl, below_setRow hw7 (by omega) _⟩
    | false =>
      go_wp2_with (refine wpList_load_row rfl 26 (.tmp 3) rfl (w.heap.size + 1) rfl 26 _ (0, 0) _ C3.out Tryd.underlying26 rfl (HS4.out _) ?_)
      refine (HZ.out _).mono ?_
      rintro e w7 ⟨rfl, hb7⟩
      rw [hz]
      have HU7 := Lib.hid (C2.out.belowAll hb7)
      have HV7 := Lib.hid (C3.out.belowAll hb7)
      have HR7 := Lib.hid (C6.out.belowAll hb7)
      have HE7 := Lib.hid (C4.out.belowAll hb7)
      have HB7 := Lib.hid (CB.out.trans (hb7.mono CB.out.size))
      have HS7 := Lib.hid (AS.out)
      have HEN7 := Lib.hid (CEN.out.belowAll hb7)
      clear hb7
      go_wp2_with (first
        | (refine wpList_load_guarded (by rfl) 26 (.tmp 6) rfl w1.heap.size rfl 26 _ HR7.out Tryd.underlying26 rfl (HS4.out _) ?_)
        | (refine wpList_load_guarded (by rfl) 26 (.tmp 2) rfl w.heap.size rfl 26 _ HU7.out Tryd.underlying26 rfl (HS4.out _) ?_)
        | (refine wpList_load_guarded (by rfl) 26 (.tmp 3) rfl (w.heap.size + 1) rfl 26 _ HV7.out Tryd.underlying26 rfl (HS4.out _) ?_))
      refine (fits_any HROK.out hu hv _).mono ?_
      rintro e w8 ⟨rfl, hb8⟩
      have HR8 := Lib.hid (HR7.out.belowAll hb8)
      have HE8 := Lib.hid (HE7.out.belowAll hb8)
      have HB8 := Lib.hid (HB7.out.trans (hb8.mono HB7.out.size))
      have HEN8 := Lib.hid (HEN7.out.belowAll hb8)
      clear hb8
      cases hf : fitB (root1 u v) u v with
      | false =>
        have hok : rootOk u v = false := by unfold rootOk; rw [hf, Bool.and_false]
        have hrt : rootL u v = zeL := by unfold rootL; rw [hok]; rfl
        go_wp2_with (first
          | (refine wpList_build0 rfl 26 rfl (.agg (EL zeL).toArray) (el_zero _) ?_)
          | (refine wpList_store_row rfl 26 (.tmp 4) (.tmp 28) rfl (w.heap.size + 1 + 1) _ rfl rfl 26 _ HE8.out (HS4.out _) (EL_sz _ _) (EL_one _) ?_))
        refine bodyPost_ret (results_row_slot (by rfl) _ _ (w.heap.size + 1 + 1) _ _ _ _ _ (by rfl) (setRow_heap w8 (w.heap.size + 1 + 1) _ (EL zeL).toArray _ _ HE8.out) Tryd.underlying26 rfl (HS4.out _) (by rfl)) rfl ?_
        exact ⟨by rw [hrt, hok]; rfl, below_setRow HB8.out (by omega) _⟩
      | true =>
        have hok : rootOk u v = true := by unfold rootOk; rw [hf, hz]; rfl
        go_wp2_with (refine wpList_load_row rfl 26 (.tmp 6) rfl w1.heap.size rfl 26 _ (0, 0) _ HR8.out Tryd.underlying26 rfl (HS4.out _) ?_)
        refine (odd_any HROK.out _).mono ?_
        rintro e w9 ⟨rfl, hb9⟩
        have HR9 := Lib.hid (HR8.out.belowAll hb9)
        have HE9 := Lib.hid (HE8.out.belowAll hb9)
        have HB9 := Lib.hid (HB8.out.trans (hb9.mono HB8.out.size))
        have HEN9 := Lib.hid (HEN8.out.belowAll hb9)
        clear hb9
        cases ho : decide (nu (root1 u v) % 2 = 1) with
        | false =>
          have hrt : rootL u v = root1 u v := by unfold rootL; rw [hok, if_pos rfl, if_neg (of_decide_eq_false ho)]
          go_wp2_with (first
            | (refine wpList_load_row rfl 26 (.tmp 6) rfl w1.heap.size rfl 26 _ (0, 0) _ HR9.out Tryd.underlying26 rfl (HS4.out _) ?_)
            | (refine wpList_store_row rfl 26 (.tmp 4) (.tmp 33) rfl (w.heap.size + 1 + 1) _ rfl rfl 26 _ HE9.out (HS4.out _) (EL_sz _ _) (EL_one _) ?_))
          refine bodyPost_ret (results_row_slot (by rfl) _ _ (w.heap.size + 1 + 1) _ _ _ _ _ (by rfl) (setRow_heap w9 (w.heap.size + 1 + 1) _ (EL (root1 u v)).toArray _ _ HE9.out) Tryd.underlying26 rfl (HS4.out _) (by rfl)) rfl ?_
          exact ⟨by rw [hrt, hok]; rfl, below_setRow HB9.out (by omega) _⟩
        | true =>
          have hrt : rootL u v = negL (root1 u v) := by unfold rootL; rw [hok, if_pos rfl, if_pos (of_decide_eq_true ho)]
          go_wp2_with (refine wpList_load_row rfl 26 (.tmp 6) rfl w1.heap.size rfl 26 _ (0, 0) _ HR9.out Tryd.underlying26 rfl (HS4.out _) ?_)
          refine (neg_any HROK.out _ HEN9.out).mono ?_
          rintro e wa ⟨rfl, hba⟩
          have HEa := Lib.hid (HE9.out.belowAll hba)
          have HBa := Lib.hid (HB9.out.trans (hba.mono HB9.out.size))
          clear hba
          go_wp2_with (refine wpList_store_row rfl 26 (.tmp 4) (.tmp 32) rfl (w.heap.size + 1 + 1) _ rfl rfl 26 _ HEa.out (HS4.out _) (EL_sz _ _) (EL_one _) ?_)
          refine bodyPost_ret (results_row_slot (by rfl) _ _ (w.heap.size + 1 + 1) _ _ _ _ _ (by rfl) (setRow_heap wa (w.heap.size + 1 + 1) _ (EL (negL (root1 u v))).toArray _ _ HEa.out) Tryd.underlying26 rfl (HS4.out _) (by rfl)) rfl ?_
          exact ⟨by rw [hrt, hok]; rfl, below_setRow HBa.out (by omega) _⟩

  | false =>
    have hr1 : root1 u v = mulL (candL u v) rtL := by unfold root1; rw [hf0]; rfl
    have HRR1 := Lib.hid hr1
    clear hr1
    obtain ⟨tq, hqr⟩ := CGL.out.rm
    have HQR := Lib.hid hqr
    clear hqr
    go_wp2_with (first
      | (refine wpList_load_row rfl 26 (.tmp 6) rfl w1.heap.size rfl 26 _ (0, 0) _ C6.out Tryd.underlying26 rfl (HS4.out _) ?_)
      | (refine wpList_load_row rfl 24 (.global 1) rfl 1 rfl tq _ (0, 0) _ HQR.out Tryd.underlying24 rfl (HS5.out _) ?_)
      | (refine wpList_build1 rfl 26 (.tmp 16) rfl (.agg (EL rtL).toArray) (.agg (EL rtL).toArray) rfl (el_build rtL _) ?_))
    refine (mul_any HCOK.out rtL_ok _).mono ?_
    rintro e w5 ⟨rfl, hb5⟩
    have hz := AS.out
    have d60 := C6.out.belowAll hb5
    have d6 := d60.setRow (EL (mulL (candL u v) rtL))
    have d2 := (C2.out.belowAll hb5).setRowOther (k := w1.heap.size) (by omega) (EL (mulL (candL u v) rtL)).toArray
    have d3 := (C3.out.belowAll hb5).setRowOther (k := w1.heap.size) (by omega) (EL (mulL (candL u v) rtL)).toArray
    have d4 := (C4.out.belowAll hb5).setRowOther (k := w1.heap.size) (by omega) (EL (mulL (candL u v) rtL)).toArray
    have db := below_setRow (g := w1.heap.size) (CB.out.trans (hb5.mono CB.out.size)) (by omega) (EL (mulL (candL u v) rtL)).toArray
    have den : En (w5.setRow w1.heap.size (EL (mulL (candL u v) rtL)).toArray) := by
      have g1 := CGL.out.en.belowAll hb5
      obtain ⟨t, g2⟩ := g1
      refine ⟨t, (setRow_other w5 w1.heap.size _ _ ?_).trans g2⟩
      have := hq0.en.lt
      omega
    have d6' : Row (w5.setRow w1.heap.size (EL (mulL (candL u v) rtL)).toArray) w1.heap.size 26 (EL (root1 u v)) := by rw [HRR1.out]; exact d6
    clear HRR1
    have D60 := Lib.hid d60
    have D6 := Lib.hid d6'
    clear d6'
    have D2 := Lib.hid d2
    have D3 := Lib.hid d3
    have D4 := Lib.hid d4
    have DB := Lib.hid db
    have DEN := Lib.hid den
    clear hz hb5 d60 d6 d2 d3 d4 db den
    go_wp2_with (first
      | (refine wpList_store_row rfl 26 (.tmp 6) (.tmp 18) rfl w1.heap.size _ rfl rfl 26 _ D60.out (HS4.out _) (EL_sz _ _) (EL_one _) ?_)
      | (refine wpList_load_row rfl 26 (.tmp 3) rfl (w.heap.size + 1) rfl 26 _ (0, 0) _ D3.out Tryd.underlying26 rfl (HS4.out _) ?_))
    -- region 4 on: r is what it is
    have HZ := Lib.hid (zero_any hv)
    cases hz : decide (nu v = 0) with
    | true =>
      have hok : rootOk u v = false := by unfold rootOk; rw [hz]; rfl
      have hrt : rootL u v = zeL := by unfold rootL; rw [hok]; rfl
      refine (HZ.out _).mono ?_
      rintro e w7 ⟨rfl, hb7⟩
      rw [hz]
      have hres7 := D4.out.belowAll hb7
      have hw7 := DB.out.trans (hb7.mono DB.out.size)
      clear hb7
      go_wp2_with (first
        | (refine wpList_build0 rfl 26 rfl (.agg (EL zeL).toArray) (el_zero _) ?_)
        | (refine wpList_store_row rfl 26 (.tmp 4) (.tmp 28) rfl (w.heap.size + 1 + 1) _ rfl rfl 26 _ hres7 (HS4.out _) (EL_sz _ _) (EL_one _) ?_))
      refine bodyPost_ret (results_row_slot (by rfl) _ _ (w.heap.size + 1 + 1) _ _ _ _ _ (by rfl) (setRow_heap w7 (w.heap.size + 1 + 1) _ (EL zeL).toArray _ _ hres7) Tryd.underlying26 rfl (HS4.out _) (by rfl)) rfl ?_
      exact ⟨by rw [hrt, hok]; rfl, below_setRow hw7 (by omega) _⟩
    | false =>
      refine (HZ.out _).mono ?_
      rintro e w7 ⟨rfl, hb7⟩
      rw [hz]
      have HU7 := Lib.hid (D2.out.belowAll hb7)
      have HV7 := Lib.hid (D3.out.belowAll hb7)
      have HR7 := Lib.hid (D6.out.belowAll hb7)
      have HE7 := Lib.hid (D4.out.belowAll hb7)
      have HB7 := Lib.hid (DB.out.trans (hb7.mono DB.out.size))
      have HS7 := Lib.hid (AS.out)
      have HEN7 := Lib.hid (DEN.out.belowAll hb7)
      clear hb7
      go_wp2_with (first
        | (refine wpList_load_guarded (by rfl) 26 (.tmp 6) rfl w1.heap.size rfl 26 _ HR7.out Tryd.underlying26 rfl (HS4.out _) ?_)
        | (refine wpList_load_guarded (by rfl) 26 (.tmp 2) rfl w.heap.size rfl 26 _ HU7.out Tryd.underlying26 rfl (HS4.out _) ?_)
        | (refine wpList_load_guarded (by rfl) 26 (.tmp 3) rfl (w.heap.size + 1) rfl 26 _ HV7.out Tryd.underlying26 rfl (HS4.out _) ?_))
      refine (fits_any HROK.out hu hv _).mono ?_
      rintro e w8 ⟨rfl, hb8⟩
      have HR8 := Lib.hid (HR7.out.belowAll hb8)
      have HE8 := Lib.hid (HE7.out.belowAll hb8)
      have HB8 := Lib.hid (HB7.out.trans (hb8.mono HB7.out.size))
      have HEN8 := Lib.hid (HEN7.out.belowAll hb8)
      clear hb8
      cases hf : fitB (root1 u v) u v with
      | false =>
        have hok : rootOk u v = false := by unfold rootOk; rw [hf, Bool.and_false]
        have hrt : rootL u v = zeL := by unfold rootL; rw [hok]; rfl
        go_wp2_with (first
          | (refine wpList_build0 rfl 26 rfl (.agg (EL zeL).toArray) (el_zero _) ?_)
          | (refine wpList_store_row rfl 26 (.tmp 4) (.tmp 28) rfl (w.heap.size + 1 + 1) _ rfl rfl 26 _ HE8.out (HS4.out _) (EL_sz _ _) (EL_one _) ?_))
        refine bodyPost_ret (results_row_slot (by rfl) _ _ (w.heap.size + 1 + 1) _ _ _ _ _ (by rfl) (setRow_heap w8 (w.heap.size + 1 + 1) _ (EL zeL).toArray _ _ HE8.out) Tryd.underlying26 rfl (HS4.out _) (by rfl)) rfl ?_
        exact ⟨by rw [hrt, hok]; rfl, below_setRow HB8.out (by omega) _⟩
      | true =>
        have hok : rootOk u v = true := by unfold rootOk; rw [hf, hz]; rfl
        go_wp2_with (refine wpList_load_row rfl 26 (.tmp 6) rfl w1.heap.size rfl 26 _ (0, 0) _ HR8.out Tryd.underlying26 rfl (HS4.out _) ?_)
        refine (odd_any HROK.out _).mono ?_
        rintro e w9 ⟨rfl, hb9⟩
        have HR9 := Lib.hid (HR8.out.belowAll hb9)
        have HE9 := Lib.hid (HE8.out.belowAll hb9)
        have HB9 := Lib.hid (HB8.out.trans (hb9.mono HB8.out.size))
        have HEN9 := Lib.hid (HEN8.out.belowAll hb9)
        clear hb9
        cases ho : decide (nu (root1 u v) % 2 = 1) with
        | false =>
          have hrt : rootL u v = root1 u v := by unfold rootL; rw [hok, if_pos rfl, if_neg (of_decide_eq_false ho)]
          go_wp2_with (first
            | (refine wpList_load_row rfl 26 (.tmp 6) rfl w1.heap.size rfl 26 _ (0, 0) _ HR9.out Tryd.underlying26 rfl (HS4.out _) ?_)
            | (refine wpList_store_row rfl 26 (.tmp 4) (.tmp 33) rfl (w.heap.size + 1 + 1) _ rfl rfl 26 _ HE9.out (HS4.out _) (EL_sz _ _) (EL_one _) ?_))
          refine bodyPost_ret (results_row_slot (by rfl) _ _ (w.heap.size + 1 + 1) _ _ _ _ _ (by rfl) (setRow_heap w9 (w.heap.size + 1 + 1) _ (EL (root1 u v)).toArray _ _ HE9.out) Tryd.underlying26 rfl (HS4.out _) (by rfl)) rfl ?_
          exact ⟨by rw [hrt, hok]; rfl, below_setRow HB9.out (by omega) _⟩
        | true =>
          have hrt : rootL u v = negL (root1 u v) := by unfold rootL; rw [hok, if_pos rfl, if_pos (of_decide_eq_true ho)]
          go_wp2_with (refine wpList_load_row rfl 26 (.tmp 6) rfl w1.heap.size rfl 26 _ (0, 0) _ HR9.out Tryd.underlying26 rfl (HS4.out _) ?_)
          refine (neg_any HROK.out _ HEN9.out).mono ?_
          rintro e wa ⟨rfl, hba⟩
          have HEa := Lib.hid (HE9.out.belowAll hba)
          have HBa := Lib.hid (HB9.out.trans (hba.mono HB9.out.size))
          clear hba
          go_wp2_with (refine wpList_store_row rfl 26 (.tmp 4) (.tmp 32) rfl (w.heap.size + 1 + 1) _ rfl rfl 26 _ HEa.out (HS4.out _) (EL_sz _ _) (EL_one _) ?_)
          refine bodyPost_ret (results_row_slot (by rfl) _ _ (w.heap.size + 1 + 1) _ _ _ _ _ (by rfl) (setRow_heap wa (w.heap.size + 1 + 1) _ (EL (negL (root1 u v))).toArray _ _ HEa.out) Tryd.underlying26 rfl (HS4.out _) (by rfl)) rfl ?_
          exact ⟨by rw [hrt, hok]; rfl, below_setRow HBa.out (by omega) _⟩


end Go.Proofs.YthpbipebpaeagaaDoor
