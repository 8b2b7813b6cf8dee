/- The document's Right of values, and Fits. -/
import Derived.Test.YteeabfckjjbmkaaRx
import Derived.Test.YteeabfckjjbmkaaRt
namespace Go.Proofs.Yteeabfckjjbmkaa
set_option maxRecDepth 100000
set_option linter.unusedSimpArgs false
set_option linter.unusedVariables false
open Go.RowKit

theorem Vt.sound_eq {k n : Int} {s : ByteArray} {names : List ByteArray} {ids : List Int} {len : Nat} {parts : Nat → Vt} : (Vt.mk k n s names ids len parts).sound = (headV k n s names ids len && allN (fun i => (parts i).sound) len) := by rw [Vt.sound]; rfl
theorem rsound_any : ∀ (v : Vt) (cs : List Value) (w : World), VAt w v cs →
    Calls Try.prog 67 #[.agg cs.toArray] w fun e w' => e = .returned (.bool v.sound) ∧ Below w.heap.size w w' := by
  intro v
  induction v with
  | nul => intro cs w h; cases h
  | mk k n s names ids len parts ih =>
    intro cs w h
    cases h with
    | mk css hk hn hs h1 h1c hss h2 h2c hi h3 h3c hp =>
    rename_i a b c la ca lb cb cc
    have hla : (la : Int) ≤ 9223372036854775807 := by have := h1c.1; have := h1c.2; unfold maxLen at this; omega
    have hlb : (lb : Int) ≤ 9223372036854775807 := by have := h2c.1; have := h2c.2; unfold maxLen at this; omega
    have hlc : (len : Int) ≤ 9223372036854775807 := by have := h3c.1; have := h3c.2; unfold maxLen at this; omega
    have hih : ∀ j, j < len → ∀ w', Below w.heap.size w w' → Calls Try.prog 67 #[.agg (css j).toArray] w' fun e w'' => e = .returned (.bool ((parts j).sound)) ∧ Below w'.heap.size w' w'' := fun j hj w' hb => ih j (css j) w' ((hp j hj).later hb)
    rw [Vt.sound_eq]
    by_cases c1 : k = 1
    · subst c1; exact rs_1 n s names ids a b c la ca lb cb len cc css _ hs hss hla hlb hlc w h1 h2 h3 hih
    by_cases c2 : k = 2
    · subst c2; exact rs_2 n s names ids a b c la ca lb cb len cc css _ hs hss hla hlb hlc w h1 h2 h3 hih
    by_cases c3 : k = 3
    · subst c3; exact rs_3 n s names ids a b c la ca lb cb len cc css _ hs hss hla hlb hlc w h1 h2 h3 hih
    by_cases c4 : k = 4
    · subst c4; exact rs_4 n s names ids a b c la ca lb cb len cc css _ hs hss hla hlb hlc w h1 h2 h3 hih
    by_cases c5 : k = 5
    · subst c5; exact rs_5 n s names ids a b c la ca lb cb len cc css _ hs hss hla hlb hlc w h1 h2 h3 hih
    by_cases c6 : k = 6
    · subst c6; exact rs_6 n s names ids a b c la ca lb cb len cc css _ hs hss hla hlb hlc w h1 h2 h3 hih
    have h0 := rs_0 k n s a b c la ca lb cb len cc c1 c2 c3 c4 c5 c6 w
    rw [show headV k n s names ids len = false by unfold headV; rw [if_neg c1, if_neg c2, if_neg c3, if_neg c4, if_neg c5, if_neg c6], Bool.false_and]
    exact h0
theorem rright_ref (v : Vt) (cs : List Value) (w : World) (h : VAt w v cs) (hd : v.depth ≤ 1000) :
    Calls Try.prog 15 #[.agg cs.toArray] w fun e w' => e = .returned (.bool (v.rightAt 1)) ∧ Below w.heap.size w w' := by
  have hw := Below.alloc1 w (.cells cs.toArray 26)
  have HD := Lib.hid (rdepth_ref v cs _ (h.later hw) hd)
  have HS := Lib.hid (fun wx hx => rsound_any v cs wx (h.later hx))
  have HW := Lib.hid hw
  have HB0 := Lib.hid (Row.new w cs 26)
  have HI := Lib.hid (v_info h.length)
  have HR := Lib.hid (show v.rightAt 1 = (decide (v.depth ≤ 5) && v.sound) by unfold Vt.rightAt; congr 1; rw [decide_eq_decide]; omega)
  clear hw h
  generalize v.depth = d at *
  generalize v.sound = bs at *
  by_cases h5 : d ≤ 5
  · have g5 : (d : Int) ≤ 5 := by omega
    go_enter Try.func15, Try.ntmps15
    go_wp2_with (refine wpList_load_row rfl 26 (.tmp 1) rfl w.heap.size rfl 26 _ (0, 0) _ HB0.out Try.underlying26 rfl HI.out ?_)
    refine HD.out.mono ?_
    rintro e W1 ⟨rfl, hb⟩
    have HW1 := Lib.hid (HW.out.trans (hb.mono HW.out.size))
    have HB1 := Lib.hid (HB0.out.belowAll hb)
    clear hb
    go_wp2_with (refine wpList_load_guarded (by rfl) 26 (.tmp 1) rfl w.heap.size rfl 26 _ HB1.out Try.underlying26 rfl HI.out ?_)
    refine (HS.out _ HW1.out).mono ?_
    rintro e W2 ⟨rfl, hb⟩
    have HB := Lib.hid hb
    clear hb
    go_wp2_with fail
    go_ret
    exact ⟨by rw [HR.out, decide_eq_true h5]; rfl, HW1.out.trans (HB.out.mono HW1.out.size)⟩
  · have g5 : ¬ (d : Int) ≤ 5 := by omega
    go_enter Try.func15, Try.ntmps15
    go_wp2_with (refine wpList_load_row rfl 26 (.tmp 1) rfl w.heap.size rfl 26 _ (0, 0) _ HB0.out Try.underlying26 rfl HI.out ?_)
    refine HD.out.mono ?_
    rintro e W1 ⟨rfl, hb⟩
    have HB := Lib.hid hb
    clear hb
    go_wp2_with fail
    go_ret
    exact ⟨by rw [HR.out, decide_eq_false h5]; rfl, HW.out.trans (HB.out.mono HW.out.size)⟩

theorem rfits_all (v : Vt) (s : St) (cs ds : List Value) (w : World) (h : VAt w v cs) (h' : SAt w s ds) (hd : v.depth ≤ 1000) (hd' : s.depth ≤ 1000) :
    Calls Try.prog 39 #[.agg cs.toArray, .agg ds.toArray] w fun e w' => e = .returned (.bool (v.rightAt 1 && s.rightAt 1 && fitsV v s)) ∧ Below w.heap.size w w' := by
  have hw := Below.alloc2 w (.cells cs.toArray 26) (.cells ds.toArray 41)
  have R1 := Lib.hid (fun wx (hx : Below w.heap.size w wx) => rright_ref v cs wx (h.later hx) hd)
  have R2 := Lib.hid (fun wx (hx : Below w.heap.size w wx) => sright_ref s ds wx (h'.later hx) hd')
  have FF := Lib.hid (fun (h1 : v.rightAt 1 = true) (h2 : s.rightAt 1 = true) wx (hx : Below w.heap.size w wx) => rfits_ref v s cs ds wx (h.later hx) (h'.later hx) (Vt.sound_of h1) (St.sound_of h2))
  have HB0 := Lib.hid ((Row.new w cs 26).alloc (.cells ds.toArray 41))
  have HB1 := Lib.hid (Row.new1 w (.cells cs.toArray 26) ds 41)
  have HI := Lib.hid (v_info h.length)
  have HJ := Lib.hid (s_info h'.length)
  have HW := Lib.hid hw
  clear hw h h' hd hd'
  generalize v.rightAt 1 = b1 at *
  generalize s.rightAt 1 = b2 at *
  cases b1
  · go_enter Try.func39, Try.ntmps39
    go_wp2_with (refine wpList_load_row rfl 26 (.tmp 2) rfl w.heap.size rfl 26 _ (0, 0) _ HB0.out Try.underlying26 rfl HI.out ?_)
    refine (R1.out _ HW.out).mono ?_
    rintro e W1 ⟨rfl, hb⟩
    have HB := Lib.hid hb
    clear hb
    go_wp2_with fail
    go_ret
    exact ⟨rfl, HW.out.trans (HB.out.mono HW.out.size)⟩
  · cases b2
    · go_enter Try.func39, Try.ntmps39
      go_wp2_with (refine wpList_load_row rfl 26 (.tmp 2) rfl w.heap.size rfl 26 _ (0, 0) _ HB0.out Try.underlying26 rfl HI.out ?_)
      refine (R1.out _ HW.out).mono ?_
      rintro e W1 ⟨rfl, hb⟩
      have HW1 := Lib.hid (HW.out.trans (hb.mono HW.out.size))
      have HB11 := Lib.hid (HB1.out.belowAll hb)
      clear hb
      go_wp2_with (refine wpList_load_guarded (by rfl) 41 (.tmp 3) rfl (w.heap.size + 1) rfl 41 _ HB11.out Try.underlying41 rfl HJ.out ?_)
      refine (R2.out _ HW1.out).mono ?_
      rintro e W2 ⟨rfl, hb⟩
      have HB := Lib.hid hb
      clear hb
      go_wp2_with fail
      go_ret
      exact ⟨rfl, HW1.out.trans (HB.out.mono HW1.out.size)⟩
    · have FF2 := Lib.hid (FF.out rfl rfl)
      clear FF
      generalize fitsV v s = b3 at *
      go_enter Try.func39, Try.ntmps39
      go_wp2_with (refine wpList_load_row rfl 26 (.tmp 2) rfl w.heap.size rfl 26 _ (0, 0) _ HB0.out Try.underlying26 rfl HI.out ?_)
      refine (R1.out _ HW.out).mono ?_
      rintro e W1 ⟨rfl, hb⟩
      have HW1 := Lib.hid (HW.out.trans (hb.mono HW.out.size))
      have HB11 := Lib.hid (HB1.out.belowAll hb)
      have HB01 := Lib.hid (HB0.out.belowAll hb)
      clear hb
      go_wp2_with (refine wpList_load_guarded (by rfl) 41 (.tmp 3) rfl (w.heap.size + 1) rfl 41 _ HB11.out Try.underlying41 rfl HJ.out ?_)
      refine (R2.out _ HW1.out).mono ?_
      rintro e W2 ⟨rfl, hb⟩
      have HW2 := Lib.hid (HW1.out.trans (hb.mono HW1.out.size))
      have HB12 := Lib.hid (HB11.out.belowAll hb)
      have HB02 := Lib.hid (HB01.out.belowAll hb)
      clear hb
      go_wp2_with (first
        | (refine wpList_load_guarded (by rfl) 26 (.tmp 2) rfl w.heap.size rfl 26 _ HB02.out Try.underlying26 rfl HI.out ?_)
        | (refine wpList_load_guarded (by rfl) 41 (.tmp 3) rfl (w.heap.size + 1) rfl 41 _ HB12.out Try.underlying41 rfl HJ.out ?_))
      refine (FF2.out _ HW2.out).mono ?_
      rintro e W3 ⟨rfl, hb⟩
      have HB := Lib.hid hb
      clear hb
      go_wp2_with fail
      go_ret
      exact ⟨rfl, HW2.out.trans (HB.out.mono HW2.out.size)⟩


end Go.Proofs.Yteeabfckjjbmkaa
