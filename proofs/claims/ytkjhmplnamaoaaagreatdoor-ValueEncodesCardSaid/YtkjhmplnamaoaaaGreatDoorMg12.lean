/- The walk of ValueEncodes. -/
import Derived.Test.YtkjhmplnamaoaaaGreatDoorMg8
import Derived.Test.YtkjhmplnamaoaaaGreatDoorMg10
import Derived.Test.YtkjhmplnamaoaaaGreatDoorMg11
import Derived.Test.YtkjhmplnamaoaaaGreatDoorMg1
namespace Go.Proofs.YtkjhmplnamaoaaaGreatDoor
section
set_option maxRecDepth 100000
set_option linter.unusedSimpArgs false
set_option linter.unusedVariables false
open Go.RowKit

theorem bl_drewN {B : Nat} {w w' : World} (h : Below B w w') (n : Nat) : Below B w (w'.drewN n) := ⟨h.os, h.tape, h.output, h.size, h.block⟩
theorem eqS_refl_ (s : ByteArray) : eqS s s = true := by unfold eqS; exact beq_self_eq_true _
theorem eqL_refl_ (l : List ByteArray) : eqL l l = true := by
  unfold eqL
  rw [decide_eq_true rfl, Bool.true_and, List.all_eq_true]
  exact fun i _ => eqS_refl_ _
theorem eqI_refl_ (l : List Int) : eqI l l = true := by
  unfold eqI
  simp
theorem sameV_refl_ : ∀ {s : Vt}, s.sound = true → sameV s s = true := by
  intro s
  induction s with
  | nul => intro h; cases h
  | mk k n s names ids len parts ih =>
    intro h
    obtain ⟨_, hp⟩ := Vt.sound_mk h
    rw [sameV, decide_eq_true rfl, decide_eq_true rfl, eqS_refl_, eqL_refl_, eqI_refl_, decide_eq_true rfl]
    simp only [Bool.true_and]
    rw [List.all_eq_true]
    exact fun i hi => ih i (hp i (List.mem_range.1 hi))

set_option maxHeartbeats 6400000 in
theorem encodes_walk (s : Vt) (cs : List Value) (w : World) (h : VAt w s cs) (hty : ErrTy w) :
    Calls Tryz.prog 3 #[.agg cs.toArray] w fun e w' => e = .returned (.bool true) ∧ Below w.heap.size w w' := by
  have hw := Below.alloc1 w (.cells cs.toArray 26)
  have HB0 := Lib.hid (Row.new w cs 26)
  have HI := Lib.hid (v_info h.length)
  have HS := Lib.hid (fun wx (hx : Below w.heap.size w wx) => h.later hx)
  have HTY := Lib.hid (fun wx (hx : Below w.heap.size w wx) => hty.below hx hty.pos)
  have HW := Lib.hid hw
  have HIN := Lib.hid h.inn
  clear hw h hty
  go_enter Tryz.func3, Tryz.ntmps3
  go_wp2_with (refine wpList_load_row rfl 26 (.tmp 1) rfl w.heap.size rfl 26 _ (0, 0) _ HB0.out Tryz.underlying26 rfl HI.out ?_)
  refine (great_ref s cs _ (HS.out _ HW.out)).mono ?_
  rintro e W1 ⟨⟨b1, rfl, hg1⟩, hb⟩
  have HW1 := Lib.hid (HW.out.trans (hb.mono HW.out.size))
  have HB1 := Lib.hid (HB0.out.belowAll hb)
  clear hb
  cases b1
  · have hdp := hg1 rfl
    clear hg1
    go_wp2_with (refine wpList_load_row rfl 26 (.tmp 1) rfl w.heap.size rfl 26 _ (0, 0) _ HB1.out Tryz.underlying26 rfl HI.out ?_)
    refine (vencode_any s cs _ (HS.out _ HW1.out)).mono ?_
    rintro e W2 ⟨henc, hb⟩
    have HW2 := Lib.hid (HW1.out.trans (hb.mono HW1.out.size))
    have HB2 := Lib.hid (HB1.out.belowAll hb)
    have HSZ := Lib.hid hb.size
    clear hb
    have HRR := Lib.hid (rright_ref s cs W2 (HS.out _ HW2.out) (by omega))
    unfold Enc at henc
    by_cases hr : s.rightAt 1 = true
    · rw [if_pos hr] at henc
      rw [hr] at HRR
      have HR := Lib.hid hr
      by_cases h4 : s.bytes.length ≤ 4096
      · rw [if_pos h4] at henc
        obtain ⟨a, c, rfl, hown⟩ := henc
        have HOW := Lib.hid hown
        have HBY := Lib.hid (fun wx (hx : Below w.heap.size w wx) => vbytes_ref s cs 1 wx (HS.out _ hx) HR.out)
        have h4i : ¬ (4096 : Int) < (s.bytes.length : Int) := by omega
        clear hr hown
        go_wp2_with (refine wpList_load_row rfl 26 (.tmp 1) rfl w.heap.size rfl 26 _ (0, 0) _ HB2.out Tryz.underlying26 rfl HI.out ?_)
        refine HRR.out.mono ?_
        rintro e W3 ⟨rfl, hb⟩
        have HW3 := Lib.hid (HW2.out.trans (hb.mono HW2.out.size))
        have HB3 := Lib.hid (HB2.out.belowAll hb)
        have HO3 := Lib.hid (own_only HOW.out (Only.of_below hb (fun _ => False)) fun _ _ h => h)
        clear hb
        go_wp2_with (refine wpList_load_row rfl 26 (.tmp 1) rfl w.heap.size rfl 26 _ (0, 0) _ HB3.out Tryz.underlying26 rfl HI.out ?_)
        refine (HBY.out _ HW3.out).mono ?_
        rintro e W4 ⟨v4, rfl, ho4, hb⟩
        obtain ⟨a4, c4, rfl⟩ := own_slice ho4
        have HW4 := Lib.hid (HW3.out.trans (hb.mono HW3.out.size))
        have HB4 := Lib.hid (HB3.out.belowAll hb)
        have HO4 := Lib.hid (own_only HO3.out (Only.of_below hb (fun _ => False)) fun _ _ h => h)
        have HP4 := Lib.hid ho4
        clear hb ho4
        have HD := Lib.hid (vdecode_any a c _ s HR.out HIN.out W4 (Rd.of_own HO4.out) h4)
        go_wp2_with fail
        refine HD.out.mono ?_
        rintro e W5 ⟨kd, nd, sd, ad, lad, cad, bd, lbd, cbd, ed, led, ced, rfl, ⟨X, hsx, _⟩, hb⟩
        have HW5 := Lib.hid ((HW4.out.trans (hb.mono HW4.out.size)).trans ((below_new W5 (.cells #[.int .i64 kd, .int .i64 nd, .string sd, .slice ad lad cad, .slice bd lbd cbd, .slice ed led ced] 26)).mono (HW4.out.trans (hb.mono HW4.out.size)).size))
        have HB5 := Lib.hid ((HB4.out.belowAll hb).alloc (.cells #[.int .i64 kd, .int .i64 nd, .string sd, .slice ad lad cad, .slice bd lbd cbd, .slice ed led ced] 26))
        have HN5 := Lib.hid (Row.new W5 [.int .i64 kd, .int .i64 nd, .string sd, .slice ad lad cad, .slice bd lbd cbd, .slice ed led ced] 26)
        have HQ5 := Lib.hid (hsx.vat.later (below_new W5 (.cells #[.int .i64 kd, .int .i64 nd, .string sd, .slice ad lad cad, .slice bd lbd cbd, .slice ed led ced] 26)))
        have hbe := bytes_any a a4 s.bytes.length s.bytes.length c c4 s.bytes s.bytes _ _ (W5.alloc (.cells #[.int .i64 kd, .int .i64 nd, .string sd, .slice ad lad cad, .slice bd lbd cbd, .slice ed led ced] 26)) (by unfold maxLen; omega)
          (Rd.of_own (World.ownsRow.alloc (own_only HO4.out (Only.of_below hb (fun _ => False)) fun _ _ h => h) _)) (Rd.of_own (World.ownsRow.alloc (own_only HP4.out (Only.of_below hb (fun _ => False)) fun _ _ h => h) _))
        rw [decide_eq_true rfl] at hbe
        have HBE := Lib.hid hbe
        clear hb hbe hsx
        go_wp2_with fail
        refine HBE.out.mono ?_
        rintro e W6 ⟨rfl, q, rfl⟩
        have hsm := rsameV_ref s s [.int .i64 kd, .int .i64 nd, .string sd, .slice ad lad cad, .slice bd lbd cbd, .slice ed led ced] cs ((W5.alloc (.cells #[.int .i64 kd, .int .i64 nd, .string sd, .slice ad lad cad, .slice bd lbd cbd, .slice ed led ced] 26)).drewN q) (HQ5.out.later (bl_drewN (Below.refl _ _) q)) (HS.out _ (bl_drewN HW5.out q))
        rw [sameV_refl_ (Vt.sound_of HR.out)] at hsm
        have HSM := Lib.hid hsm
        have HB6 := Lib.hid (show Row ((W5.alloc (.cells #[.int .i64 kd, .int .i64 nd, .string sd, .slice ad lad cad, .slice bd lbd cbd, .slice ed led ced] 26)).drewN q) w.heap.size 26 cs from HB5.out)
        have HN6 := Lib.hid (show Row ((W5.alloc (.cells #[.int .i64 kd, .int .i64 nd, .string sd, .slice ad lad cad, .slice bd lbd cbd, .slice ed led ced] 26)).drewN q) W5.heap.size 26 _ from HN5.out)
        clear hsm
        go_wp2_with (first | (refine wpList_load_guarded (by rfl) 26 (.tmp 6) rfl W5.heap.size rfl 26 _ HN6.out Tryz.underlying26 rfl (v_info (cs := [.int .i64 kd, .int .i64 nd, .string sd, .slice ad lad cad, .slice bd lbd cbd, .slice ed led ced]) rfl) ?_) | (refine wpList_load_guarded (by rfl) 26 (.tmp 1) rfl w.heap.size rfl 26 _ HB6.out Tryz.underlying26 rfl HI.out ?_))
        refine HSM.out.mono ?_
        rintro e W7 ⟨rfl, hb⟩
        have HW7 := Lib.hid ((bl_drewN HW5.out q).trans (hb.mono (bl_drewN HW5.out q).size))
        clear hb
        go_wp2_with fail
        refine (awake_any _).mono ?_
        rintro e W8 ⟨rfl, hb⟩
        have HW8 := Lib.hid (HW7.out.trans (hb.mono HW7.out.size))
        clear hb
        go_wp2_with fail
        go_ret
        exact ⟨rfl, HW8.out⟩
      · rw [if_neg h4] at henc
        subst henc
        have HBY := Lib.hid (fun wx (hx : Below w.heap.size w wx) => vbytes_ref s cs 1 wx (HS.out _ hx) HR.out)
        have h4i : (4096 : Int) < (s.bytes.length : Int) := by omega
        clear hr
        go_wp2_with (refine wpList_load_row rfl 26 (.tmp 1) rfl w.heap.size rfl 26 _ (0, 0) _ HB2.out Tryz.underlying26 rfl HI.out ?_)
        refine HRR.out.mono ?_
        rintro e W3 ⟨rfl, hb⟩
        have HW3 := Lib.hid (HW2.out.trans (hb.mono HW2.out.size))
        have HB3 := Lib.hid (HB2.out.belowAll hb)
        clear hb
        go_wp2_with (refine wpList_load_row rfl 26 (.tmp 1) rfl w.heap.size rfl 26 _ (0, 0) _ HB3.out Tryz.underlying26 rfl HI.out ?_)
        refine (HBY.out _ HW3.out).mono ?_
        rintro e W4 ⟨v4, rfl, ho4, hb⟩
        obtain ⟨a4, c4, rfl⟩ := own_slice ho4
        have HW4 := Lib.hid (HW3.out.trans (hb.mono HW3.out.size))
        clear hb ho4
        go_wp2_with fail
        refine (lcode_plain 3 _ (HTY.out _ HW4.out)).mono ?_
        rintro e W5 ⟨rfl, hb⟩
        have HW5 := Lib.hid (HW4.out.trans (hb.mono HW4.out.size))
        clear hb
        go_wp2_with fail
        refine (awake_any _).mono ?_
        rintro e W8 ⟨rfl, hb⟩
        have HW8 := Lib.hid (HW5.out.trans (hb.mono HW5.out.size))
        clear hb
        go_wp2_with fail
        go_ret
        exact ⟨rfl, HW8.out⟩
    · have hr' : s.rightAt 1 = false := by simpa using hr
      rw [if_neg hr] at henc
      rw [hr'] at HRR
      subst henc
      clear hr hr'
      go_wp2_with (refine wpList_load_row rfl 26 (.tmp 1) rfl w.heap.size rfl 26 _ (0, 0) _ HB2.out Tryz.underlying26 rfl HI.out ?_)
      refine HRR.out.mono ?_
      rintro e W4 ⟨rfl, hb⟩
      have HW4 := Lib.hid (HW2.out.trans (hb.mono HW2.out.size))
      clear hb
      go_wp2_with fail
      refine (lcode_plain 1 _ (HTY.out _ HW4.out)).mono ?_
      rintro e W5 ⟨rfl, hb⟩
      have HW5 := Lib.hid (HW4.out.trans (hb.mono HW4.out.size))
      clear hb
      go_wp2_with fail
      refine (awake_any _).mono ?_
      rintro e W8 ⟨rfl, hb⟩
      have HW8 := Lib.hid (HW5.out.trans (hb.mono HW5.out.size))
      clear hb
      go_wp2_with fail
      go_ret
      exact ⟨rfl, HW8.out⟩
  · clear hg1
    go_wp2_with fail
    refine (awake_any _).mono ?_
    rintro e W8 ⟨rfl, hb⟩
    have HW8 := Lib.hid (HW1.out.trans (hb.mono HW1.out.size))
    clear hb
    go_wp2_with fail
    go_ret
    exact ⟨rfl, HW8.out⟩
end

end Go.Proofs.YtkjhmplnamaoaaaGreatDoor
