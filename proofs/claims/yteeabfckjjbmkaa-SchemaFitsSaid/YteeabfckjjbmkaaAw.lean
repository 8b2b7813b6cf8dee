/- The document's example of a default. -/
import Derived.Test.YteeabfckjjbmkaaFk
import Derived.Test.YteeabfckjjbmkaaSm
import Derived.Test.YteeabfckjjbmkaaPg
namespace Go.Proofs.Yteeabfckjjbmkaa
set_option maxRecDepth 100000
set_option linter.unusedSimpArgs false
set_option linter.unusedVariables false
open Go.RowKit

def redB : ByteArray := { data := #[114, 101, 100] }
def blueB : ByteArray := { data := #[98, 108, 117, 101] }
def exS : St := .mk 4 [redB, blueB] 0 fun _ => .nul
def exV : Vt := .mk 4 0 redB [] [] 0 fun _ => .nul
theorem exS_right : exS.rightAt 1 = true := by decide +kernel
theorem exS_same : sameV (if exS.rightAt 1 then exS.dflt else zeroV) exV = true := by
  rw [exS_right, if_pos rfl]
  decide +kernel
set_option maxHeartbeats 1600000 in
theorem sawake_any (w : World) : Calls Try.prog 27 #[] w fun e w' => e = .returned (.bool true) ∧ Below w.heap.size w w' := by
  have hw := Below.alloc2 w (.cells #[.string { data := #[114, 101, 100] }, .string { data := #[98, 108, 117, 101] }] 9) (.cells #[.int .i64 4, .slice (some ⟨w.heap.size, 0, none⟩) 2 2, .slice none 0 0] 41)
  have HB0 := Lib.hid (Row.new1 w (.cells #[.string { data := #[114, 101, 100] }, .string { data := #[98, 108, 117, 101] }] 9) [.int .i64 4, .slice (some ⟨w.heap.size, 0, none⟩) 2 2, .slice none 0 0] 41)
  have hrd : Strs ((w.alloc (.cells #[.string { data := #[114, 101, 100] }, .string { data := #[98, 108, 117, 101] }] 9)).alloc (.cells #[.int .i64 4, .slice (some ⟨w.heap.size, 0, none⟩) 2 2, .slice none 0 0] 41)) (some ⟨w.heap.size, 0, none⟩) 2 [redB, blueB] :=
    (((Row.new w [.string { data := #[114, 101, 100] }, .string { data := #[98, 108, 117, 101] }] 9).alloc (.cells #[.int .i64 4, .slice (some ⟨w.heap.size, 0, none⟩) 2 2, .slice none 0 0] 41)).rd (n := 2) rfl).weak fun _ _ => trivial
  have hs : SAt ((w.alloc (.cells #[.string { data := #[114, 101, 100] }, .string { data := #[98, 108, 117, 101] }] 9)).alloc (.cells #[.int .i64 4, .slice (some ⟨w.heap.size, 0, none⟩) 2 2, .slice none 0 0] 41)) exS [.int .i64 4, .slice (some ⟨w.heap.size, 0, none⟩) 2 2, .slice none 0 0] :=
    .mk (fun _ => []) rfl hrd ⟨Nat.le_refl _, by decide⟩ (fun x hx => by simp at hx; rcases hx with rfl | rfl <;> decide) (fun h => absurd h (Nat.lt_irrefl 0)) ⟨Nat.le_refl _, Nat.zero_le _⟩ (fun j h => absurd h (Nat.not_lt_zero j))
  have HDF := Lib.hid (default_any exS _ _ hs)
  have HRT := Lib.hid (fun wx hx => sRight_any exS _ wx (hs.later hx))
  have HSC := Lib.hid (fun wx => scalar_any 4 [redB, blueB] (some ⟨w.heap.size, 0, none⟩) none 2 2 0 0 wx rfl)
  have HW := Lib.hid hw
  have HI := Lib.hid (s_info (cs := [.int .i64 4, .slice (some ⟨w.heap.size, 0, none⟩) 2 2, .slice none 0 0]) rfl)
  have hsz := hw.size
  clear hw hrd hs
  go_enter Try.func27, Try.ntmps27
  go_wp2_with (refine wpList_load_row rfl 41 (.tmp 1) rfl (w.heap.size + 1) rfl 41 _ (0, 0) _ HB0.out Try.underlying41 rfl HI.out ?_)
  refine HDF.out.mono ?_
  rintro e W1 ⟨⟨ds, rfl, hv⟩, hb⟩
  have HW1 := Lib.hid (HW.out.trans (hb.mono HW.out.size))
  have HB1 := Lib.hid (HB0.out.belowAll hb)
  have HX := Lib.hid hb
  have hsm := rsameV_ref _ exV ds [.int .i64 4, .int .i64 0, .string { data := #[114, 101, 100] }, .slice none 0 0, .slice none 0 0, .slice none 0 0] W1 hv.vat (VIn.bare (fun _ => True) W1 4 0 redB (fun _ => .nul) rfl rfl (by decide)).vat
  rw [exS_same] at hsm
  have HSM := Lib.hid hsm
  clear hsm hv hb
  go_wp2_with fail
  refine HSM.out.mono ?_
  rintro e W2 ⟨rfl, hb⟩
  have HW2 := Lib.hid (HW1.out.trans (hb.mono HW1.out.size))
  have HB2 := Lib.hid (HB1.out.belowAll hb)
  have hrt := HRT.out W2 (HX.out.trans (hb.mono HX.out.size))
  rw [exS_right] at hrt
  have HR := Lib.hid hrt
  clear hb hrt
  go_wp2_with (refine wpList_load_guarded (by rfl) 41 (.tmp 1) rfl (w.heap.size + 1) rfl 41 _ HB2.out Try.underlying41 rfl HI.out ?_)
  refine HR.out.mono ?_
  rintro e W3 ⟨rfl, hb⟩
  have HW3 := Lib.hid (HW2.out.trans (hb.mono HW2.out.size))
  have HB3 := Lib.hid (HB2.out.belowAll hb)
  clear hb
  go_wp2_with (refine wpList_load_guarded (by rfl) 41 (.tmp 1) rfl (w.heap.size + 1) rfl 41 _ HB3.out Try.underlying41 rfl HI.out ?_)
  refine (HSC.out W3).mono ?_
  rintro e W4 ⟨rfl, hb⟩
  have HB := Lib.hid hb
  clear hb
  go_wp2_with fail
  go_ret
  exact ⟨rfl, HW3.out.trans (HB.out.mono HW3.out.size)⟩

end Go.Proofs.Yteeabfckjjbmkaa
