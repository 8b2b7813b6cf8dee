/- The chapter's example: the law's awake. -/
import Derived.Test.YthknfbbnnldnmaaCa
namespace Go.Proofs.Ythknfbbnnldnmaa
set_option maxRecDepth 100000
set_option linter.unusedSimpArgs false
set_option linter.unusedVariables false
open Go.RowKit

set_option maxHeartbeats 1600000 in
theorem same_leaf (w : World) :
    Calls Try.prog 17 #[.agg (lfA 1 1 ByteArray.empty), .agg #[.int .i64 1, .int .i64 1, .string { data := #[] }, .slice none 0 0, .slice none 0 0, .slice none 0 0]] w fun e w' => e = .returned (.bool true) ∧ Below w.heap.size w w' := by
  have HB := Lib.hid (Below.alloc2 w (.cells (lfA 1 1 ByteArray.empty) 47) (.cells #[.int .i64 1, .int .i64 1, .string { data := #[] }, .slice none 0 0, .slice none 0 0, .slice none 0 0] 47))
  go_enter Try.func17, Try.ntmps17
  go_wp2_with fail
  go_loopw [5] (fun i wr => i = .int .i64 0 ∧ wr = (w.alloc (.cells (lfA 1 1 ByteArray.empty) 47)).alloc (.cells #[.int .i64 1, .int .i64 1, .string { data := #[] }, .slice none 0 0, .slice none 0 0, .slice none 0 0] 47)) (fun _ _ => 0)
  case atStart => exact ⟨rfl, rfl⟩
  case round =>
    obtain ⟨rfl, rfl⟩ := hrel
    go_wp2_with fail
    go_loopw [6] (fun i wr => i = .int .i64 0 ∧ wr = (w.alloc (.cells (lfA 1 1 ByteArray.empty) 47)).alloc (.cells #[.int .i64 1, .int .i64 1, .string { data := #[] }, .slice none 0 0, .slice none 0 0, .slice none 0 0] 47)) (fun _ _ => 0)
    case atStart => exact ⟨rfl, rfl⟩
    case round =>
      obtain ⟨rfl, rfl⟩ := hrel
      go_wp2_with fail
      go_loopw [7] (fun i wr => i = .int .i64 0 ∧ wr = (w.alloc (.cells (lfA 1 1 ByteArray.empty) 47)).alloc (.cells #[.int .i64 1, .int .i64 1, .string { data := #[] }, .slice none 0 0, .slice none 0 0, .slice none 0 0] 47)) (fun _ _ => 0)
      case atStart => exact ⟨rfl, rfl⟩
      case round =>
        obtain ⟨rfl, rfl⟩ := hrel
        go_wp2_with fail
        go_ret
        exact ⟨rfl, HB.out⟩

def exLf : Vt := .mk 1 1 ByteArray.empty [] [] 0 fun _ => .nul
def exLs : Vt := .mk 6 0 ByteArray.empty [] [3] 1 fun _ => exLf
def exRc : Vt := .mk 5 0 ByteArray.empty [aB] [] 1 fun _ => exLs
theorem exRc_right : exRc.rightAt 1 = true := by decide +kernel
theorem rd_one {w : World} {g : Nat} {v : Value} (h : w.cell? ⟨g, 0, none⟩ = some v) : Rd w (fun _ => True) (some ⟨g, 0, none⟩) 1 [v] :=
  ⟨rfl, fun _ => ⟨⟨g, 0, none⟩, rfl, trivial, lt_of_cell h, fun j u hj => by
    match j, hj with
    | 0, hj => simp at hj; subst hj; exact h⟩⟩
theorem parts_one {w : World} {g : Nat} {cs : List Value} (hl : cs.length = 6) (h : Cells w g cs) : Parts w 6 (some ⟨g, 0, none⟩) 1 (fun _ => cs) := fun _ => by
  have ea : ∀ j, (⟨g, 0, none⟩ : Addr).add j = ⟨g, j, none⟩ := fun j => by unfold Addr.add; split <;> simp_all
  have h0 : ∃ v, cs[0]? = some v := ⟨cs[0]'(by omega), List.getElem?_eq_getElem (by omega)⟩
  obtain ⟨v, hv⟩ := h0
  refine ⟨⟨g, 0, none⟩, rfl, lt_of_cell (h 0 v hv), fun j hj => ⟨hl, fun i u hu => ?_⟩⟩
  obtain rfl : j = 0 := by omega
  rw [ea, show 0 * 6 + i = i by omega]
  exact h i u hu
theorem ex_vat {w : World} {g n0 p1 i0 p0 : Nat} (h : ExV w g n0 p1 i0 p0) : VAt w exRc (recA n0 p1).toList := by
  have hlf : VAt w exLf [.int .i64 1, .int .i64 1, .string ByteArray.empty, .slice none 0 0, .slice none 0 0, .slice none 0 0] :=
    .mk (fun _ => []) rfl rfl (by decide) (Rd.nil _ _ _) ⟨Nat.le_refl _, Nat.zero_le _⟩ (fun x hx => by simp at hx) (Rd.nil _ _ _) ⟨Nat.le_refl _, Nat.zero_le _⟩ (fun x hx => by simp at hx) (fun h => absurd h (Nat.lt_irrefl 0)) ⟨Nat.le_refl _, Nat.zero_le _⟩ (fun j h => absurd h (Nat.not_lt_zero j))
  have hls : VAt w exLs [.int .i64 6, .int .i64 0, .string ByteArray.empty, .slice none 0 0, .slice (some ⟨i0, 0, none⟩) 1 1, .slice (some ⟨p0, 0, none⟩) 1 1] :=
    .mk (fun _ => [.int .i64 1, .int .i64 1, .string ByteArray.empty, .slice none 0 0, .slice none 0 0, .slice none 0 0]) rfl rfl (by decide) (Rd.nil _ _ _) ⟨Nat.le_refl _, Nat.zero_le _⟩ (fun x hx => by simp at hx) (rd_one h.idc) ⟨Nat.le_refl _, by decide⟩ (fun x hx => by simp at hx; subst hx; rfl) (parts_one rfl h.leaf) ⟨Nat.le_refl _, by decide⟩ (fun _ _ => hlf)
  exact .mk (fun _ => [.int .i64 6, .int .i64 0, .string ByteArray.empty, .slice none 0 0, .slice (some ⟨i0, 0, none⟩) 1 1, .slice (some ⟨p0, 0, none⟩) 1 1]) rfl rfl (by decide) (rd_one h.nm) ⟨Nat.le_refl _, by decide⟩ (fun x hx => by simp at hx; subst hx; decide) (Rd.nil _ _ _) ⟨Nat.le_refl _, Nat.zero_le _⟩ (fun x hx => by simp at hx) (parts_one rfl h.lst) ⟨Nat.le_refl _, by decide⟩ (fun _ _ => hls)
set_option maxHeartbeats 1600000 in
theorem all_ex (g n0 p1 i0 p0 : Nat) (w : World) (h : ExV w g n0 p1 i0 p0) :
    Calls Try.prog 18 #[.agg (recA n0 p1)] w fun e w' => ∃ A c, e = .returned (.slice A 3 c) ∧ Below w.heap.size w w' := by
  have h1 := h.below (below_new w (.cells (recA n0 p1) 47))
  have hr := vright_any exRc (recA n0 p1).toList _ (ex_vat h1)
  rw [exRc_right] at hr
  have HR := Lib.hid hr
  have R1 := Lib.hid (Row.new w (recA n0 p1).toList 47)
  have HE := Lib.hid h1
  clear h h1 hr
  go_enter Try.func18, Try.ntmps18
  go_wp2_with fail
  refine HR.out.mono ?_
  rintro e W1 ⟨rfl, hb⟩
  have HAL := Lib.hid (all_rec g n0 p1 i0 p0 0 [] (.slice none 0 0) W1 (HE.out.below hb) (World.ownsRow_nil _ _ _ _) (fun u hu => by simp at hu) (by omega))
  have R1' := Lib.hid (ld_val _ rfl (R1.out.belowAll hb).cells)
  have HB := Lib.hid (below_then hb)
  clear hb
  go_wp2_with (refine wpList_loadr rfl 47 (.tmp 1) rfl _ _ rfl R1'.out ?_)
  refine HAL.out.mono ?_
  rintro e W2 ⟨v, rfl, ys, hown, _, hb2⟩
  obtain ⟨A, c, rfl⟩ := own_sl hown
  have HB2 := Lib.hid (HB.out.trans (hb2.mono HB.out.size))
  clear hown hb2
  go_wp2_with fail
  go_ret
  exact ⟨_, _, rfl, HB2.out⟩

end Go.Proofs.Ythknfbbnnldnmaa
