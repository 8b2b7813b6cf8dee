/- Whether a value fits: the program's Fits. -/
import Derived.Test.YteeabfckjjbmkaaRd
namespace Go.Proofs.Yteeabfckjjbmkaa
set_option maxRecDepth 100000
set_option linter.unusedSimpArgs false
set_option linter.unusedVariables false
open Go.RowKit

theorem Vt.sound_of {v : Vt} {d : Nat} (h : v.rightAt d = true) : v.sound = true := by unfold Vt.rightAt at h; rw [Bool.and_eq_true] at h; exact h.2
theorem St.sound_of {v : St} {d : Nat} (h : v.rightAt d = true) : v.sound = true := by unfold St.rightAt at h; rw [Bool.and_eq_true] at h; exact h.2

theorem fits_all (v : Vt) (s : St) (cs ds : List Value) (w : World) (h : VAt w v cs) (h' : SAt w s ds)  :
    Calls Try.prog 38 #[.agg cs.toArray, .agg ds.toArray] w fun e w' => e = .returned (.bool (v.rightAt 1 && s.rightAt 1 && fitsV v s)) ∧ Below w.heap.size w w' := by
  have hw := Below.alloc2 w (.cells cs.toArray 26) (.cells ds.toArray 41)
  have R1 := Lib.hid (fun wx (hx : Below w.heap.size w wx) => vright_any v cs wx (h.later hx))
  have R2 := Lib.hid (fun wx (hx : Below w.heap.size w wx) => sRight_any s ds wx (h'.later hx))
  have FF := Lib.hid (fun (h1 : v.rightAt 1 = true) (h2 : s.rightAt 1 = true) wx (hx : Below w.heap.size w wx) => fits_any v s cs ds wx (h.later hx) (h'.later hx) (Vt.sound_of h1) (St.sound_of h2))
  have HB0 := Lib.hid ((Row.new w cs 26).alloc (.cells ds.toArray 41))
  have HB1 := Lib.hid (Row.new1 w (.cells cs.toArray 26) ds 41)
  have HI := Lib.hid (v_info h.length)
  have HJ := Lib.hid (s_info h'.length)
  have HW := Lib.hid hw
  clear hw h h'
  generalize v.rightAt 1 = b1 at *
  generalize s.rightAt 1 = b2 at *
  cases b1
  · go_enter Try.func38, Try.ntmps38
    go_wp2_with (refine wpList_load_row rfl 26 (.tmp 2) rfl w.heap.size rfl 26 _ (0, 0) _ HB0.out Try.underlying26 rfl HI.out ?_)
    refine (R1.out _ HW.out).mono ?_
    rintro e W1 ⟨rfl, hb⟩
    have HB := Lib.hid hb
    clear hb
    go_wp2_with fail
    go_ret
    exact ⟨rfl, HW.out.trans (HB.out.mono HW.out.size)⟩
  · cases b2
    · go_enter Try.func38, Try.ntmps38
      go_wp2_with (refine wpList_load_row rfl 26 (.tmp 2) rfl w.heap.size rfl 26 _ (0, 0) _ HB0.out Try.underlying26 rfl HI.out ?_)
      refine (R1.out _ HW.out).mono ?_
      rintro e W1 ⟨rfl, hb⟩
      have HW1 := Lib.hid (HW.out.trans (hb.mono HW.out.size))
      have HB11 := Lib.hid (HB1.out.belowAll hb)
      clear hb
      go_wp2_with (refine wpList_load_guarded (by rfl) 41 (.tmp 3) rfl (w.heap.size + 1) rfl 41 _ HB11.out Try.underlying41 rfl HJ.out ?_)
      refine (R2.out _ HW1.out).mono ?_
      rintro e W2 ⟨rfl, hb⟩
      have HB := Lib.hid hb
      clear hb
      go_wp2_with fail
      go_ret
      exact ⟨rfl, HW1.out.trans (HB.out.mono HW1.out.size)⟩
    · have FF2 := Lib.hid (FF.out rfl rfl)
      clear FF
      generalize fitsV v s = b3 at *
      go_enter Try.func38, Try.ntmps38
      go_wp2_with (refine wpList_load_row rfl 26 (.tmp 2) rfl w.heap.size rfl 26 _ (0, 0) _ HB0.out Try.underlying26 rfl HI.out ?_)
      refine (R1.out _ HW.out).mono ?_
      rintro e W1 ⟨rfl, hb⟩
      have HW1 := Lib.hid (HW.out.trans (hb.mono HW.out.size))
      have HB11 := Lib.hid (HB1.out.belowAll hb)
      have HB01 := Lib.hid (HB0.out.belowAll hb)
      clear hb
      go_wp2_with (refine wpList_load_guarded (by rfl) 41 (.tmp 3) rfl (w.heap.size + 1) rfl 41 _ HB11.out Try.underlying41 rfl HJ.out ?_)
      refine (R2.out _ HW1.out).mono ?_
      rintro e W2 ⟨rfl, hb⟩
      have HW2 := Lib.hid (HW1.out.trans (hb.mono HW1.out.size))
      have HB12 := Lib.hid (HB11.out.belowAll hb)
      have HB02 := Lib.hid (HB01.out.belowAll hb)
      clear hb
      go_wp2_with (first
        | (refine wpList_load_guarded (by rfl) 26 (.tmp 2) rfl w.heap.size rfl 26 _ HB02.out Try.underlying26 rfl HI.out ?_)
        | (refine wpList_load_guarded (by rfl) 41 (.tmp 3) rfl (w.heap.size + 1) rfl 41 _ HB12.out Try.underlying41 rfl HJ.out ?_))
      refine (FF2.out _ HW2.out).mono ?_
      rintro e W3 ⟨rfl, hb⟩
      have HB := Lib.hid hb
      clear hb
      go_wp2_with fail
      go_ret
      exact ⟨rfl, HW2.out.trans (HB.out.mono HW2.out.size)⟩

theorem scalar_any (k : Int) (words : List ByteArray) (a c : Option Addr) (la ca len cc : Nat) (w : World) (hk : k = 4) :
    Calls Try.prog 37 #[.agg #[.int .i64 k, .slice a la ca, .slice c len cc]] w fun e w' => e = .returned (.bool true) ∧ Below w.heap.size w w' := by
  subst hk
  have HW := Lib.hid (Below.alloc1 w (.cells #[.int .i64 4, .slice a la ca, .slice c len cc] 41))
  go_enter Try.func37, Try.ntmps37
  go_wp2_with fail
  go_ret
  exact ⟨rfl, HW.out⟩

end Go.Proofs.Yteeabfckjjbmkaa
