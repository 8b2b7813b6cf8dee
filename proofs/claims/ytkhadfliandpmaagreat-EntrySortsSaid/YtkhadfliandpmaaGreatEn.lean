/- What is signed of the example, and its bytes. -/
import Derived.Test.YtkhadfliandpmaaGreatEm
namespace Go.Proofs.YtkhadfliandpmaaGreat
set_option maxRecDepth 100000
set_option linter.unusedSimpArgs false
set_option linter.unusedVariables false
open Go.RowKit

abbrev zs (n : Nat) : List UInt8 := List.replicate n 0
def sgB : List UInt8 := (((([1] ++ zs 32) ++ [0]) ++ [3, 0, 3]) ++ zs 32)
theorem sgB_len : sgB.length = 69 := by decide
set_option maxHeartbeats 3200000 in
theorem tosign_any (w : World) : Calls Tryz.prog 14 #[.agg enE.toArray] w fun e w' => ∃ A c, e = .returned (.tuple #[.slice A 69 c, .nilIface]) ∧ w'.ownsRow w.heap.size 5 1 (.slice A 69 c) 69 (Bs sgB) ∧ Below w.heap.size w w' := by
  have HR := Lib.hid (Row.new w enE 55)
  have HB := Lib.hid (below_newE w (.cells enE.toArray 55))
  have c33 := HR.out.cell (k := 33) rfl
  have HCT := Lib.hid content_any
  have HI := Lib.hid enE_info
  have HRT := Lib.hid (fun (w' : World) (h : Row w' w.heap.size 55 enE) => (show w'.heap[w.heap.size]? = some (.cells enE.toArray 55 (0, 0)) from h))
  generalize hX : enE.toArray = X at *
  go_enter Tryz.func14, Tryz.ntmps14
  go_wp2_with fail
  refine (rise_nil _).mono ?_
  rintro e W1 ⟨rfl, hb⟩
  have HR1 := Lib.hid (HR.out.belowAll hb)
  have HB1 := Lib.hid (HB.out.trans (hb.mono HB.out.size))
  clear hb c33
  go_wp2_with (refine wpList_load_row rfl 55 (.tmp 1) rfl w.heap.size rfl 55 _ (0, 0) _ (HRT.out _ HR1.out) Tryz.underlying55 rfl HI.out ?_)
  refine (HCT.out _).mono ?_
  rintro e W2 ⟨A, c, rfl, ho, hb⟩
  have HR2 := Lib.hid (HR1.out.belowAll hb)
  have HB2 := Lib.hid (HB1.out.trans (hb.mono HB1.out.size))
  have HO2 := Lib.hid ho
  clear ho hb
  have hwe : WE W2 (W2.alloc (.cells #[.slice none 0 0] 65)) ⟨W2.heap.size, 0, none⟩ (.slice none 0 0) [] := WE.new (Below.refl _ _)
  have HWE := Lib.hid hwe
  clear hwe
  have c0 := (HR2.out.below HWE.out.be HR2.out.lt).cell (k := 0) rfl
  go_wp2_with fail
  refine (byte_any _ _ [] 1 _ HWE.out.wr (by simp)).mono ?_
  rintro e W3 ⟨rfl, v3, hw⟩
  have HWE3 := Lib.hid (HWE.out.wrote hw)
  clear hw c0
  go_wp2_with fail
  refine (raw_any _ _ _ _ 32 32 (zs 32) _ _ HWE3.out.wr (row_zeros (HR2.out.below HWE3.out.be HR2.out.lt) enE_ver (by omega)) (by simp)).mono ?_
  rintro e W4 ⟨rfl, v4, hw⟩
  have HWE4 := Lib.hid (HWE3.out.wrote hw)
  clear hw
  have c33 := (HR2.out.below HWE4.out.be HR2.out.lt).cell (k := 33) rfl
  have hn := number_any _ _ _ 0 _ HWE4.out.wr (by omega) (by simp)
  rw [enc_small (by omega)] at hn
  have HN := Lib.hid hn
  clear hn
  go_wp2_with fail
  refine HN.out.mono ?_
  rintro e W5 ⟨rfl, v5, hw⟩
  have HWE5 := Lib.hid (HWE4.out.wrote hw)
  clear hw c33
  have c33 := (HR2.out.below HWE5.out.be HR2.out.lt).cell (k := 33) rfl
  go_wp2_with fail
  refine wp_loop_rounds 1 ?_
  rw [rounds_succ]
  go_wp2_with fail
  refine (raw_any _ _ _ A 3 c [3, 0, 3] _ _ HWE5.out.wr ((Rd.of_own HO2.out).belowAll HWE5.out.be) (by simp)).mono ?_
  rintro e W6 ⟨rfl, v6, hw⟩
  have HWE6 := Lib.hid (HWE5.out.wrote hw)
  clear hw
  go_wp2_with fail
  refine (raw_any _ _ _ _ 32 32 (zs 32) _ _ HWE6.out.wr (row_zeros (HR2.out.below HWE6.out.be HR2.out.lt) enE_key (by omega)) (by simp)).mono ?_
  rintro e W7 ⟨rfl, v7, hw⟩
  have HWE7 := Lib.hid (HWE6.out.wrote hw)
  clear hw
  go_wp2_with fail
  refine (out_anyE _ v7 sgB W7 HWE7.out.wr (by decide)).mono ?_
  rintro e W8 ⟨v8, rfl, ho, hb⟩
  obtain ⟨A8, c8, rfl⟩ := own_slice ho
  have HB7 := Lib.hid (HB2.out.trans (HWE7.out.be.mono HB2.out.size))
  have HO8 := Lib.hid (own_base ho HB7.out.size)
  have HB8 := Lib.hid (HB7.out.trans (hb.mono HB7.out.size))
  have hl := sgB_len
  rw [hl] at HO8
  clear ho hb
  go_wp2_with fail
  go_ret2
  exact ⟨_, _, rfl, HO8.out, HB8.out⟩

end Go.Proofs.YtkhadfliandpmaaGreat
