/- The law's awake: the example's entry, encoded. -/
import Derived.Test.YtkhadfliandpmaaGreatEn
import Derived.Laws.Tables
namespace Go.Proofs.YtkhadfliandpmaaGreat
set_option maxRecDepth 100000
set_option linter.unusedSimpArgs false
set_option linter.unusedVariables false
open Go.RowKit

def enB : List UInt8 := sgB ++ zs 64
theorem enB_len : enB.length = 133 := by decide
set_option maxHeartbeats 3200000 in
theorem encode_ex (w : World) : Calls Tryz.prog 9 #[.agg enE.toArray] w fun e w' => ∃ v, e = .returned (.tuple #[v, .nilIface]) ∧ w'.ownsRow w.heap.size 5 1 v 133 (Bs enB) ∧ Below w.heap.size w w' := by
  obtain ⟨i0, hi, hz0, hz1, hz2⟩ := info_parts u8_info
  have HR := Lib.hid (Row.new w enE 55)
  have HB := Lib.hid (below_newE w (.cells enE.toArray 55))
  have HTS := Lib.hid tosign_any
  have HI := Lib.hid enE_info
  have HRT := Lib.hid (fun (w' : World) (h : Row w' w.heap.size 55 enE) => (show w'.heap[w.heap.size]? = some (.cells enE.toArray 55 (0, 0)) from h))
  generalize hX : enE.toArray = X at *
  go_enter Tryz.func9, Tryz.ntmps9
  go_wp2_with (refine wpList_load_row rfl 55 (.tmp 1) rfl w.heap.size rfl 55 _ (0, 0) _ (HRT.out _ HR.out) Tryz.underlying55 rfl HI.out ?_)
  refine (HTS.out _).mono ?_
  rintro e W1 ⟨A, c, rfl, ho, hb⟩
  have HB1 := Lib.hid (HB.out.trans (hb.mono HB.out.size))
  have HO1 := Lib.hid (own_base ho HB.out.size)
  have HSG := Lib.hid (row_zeros (HR.out.belowAll hb) enE_sig (by omega))
  clear ho hb
  go_wp2_with (at_builtin; refine wpList_append_rd _ rfl (.tmp 14) (.tmp 16) 31 rfl w.heap.size 5 i0 (.int .u8 0) 1 Tryz.underlying31 hi hz0 hz1 hz2 rfl (.slice A 69 c) 69 (Bs sgB) rfl HO1.out (fun k => k = w.heap.size) (some ⟨w.heap.size, 96, none⟩) 64 64 (Bs (zs 64)) rfl HSG.out (Bs_one _) ?c1 ?c2 ?c3 ?_)
  case c1 => unfold maxLen; omega
  case c2 => omega
  case c3 => exact HB1.out.size
  intro v' w' hown hg hat
  have HOW := Lib.hid (show w'.ownsRow w.heap.size 5 1 v' 133 (Bs enB) from by
    have h : Bs enB = Bs sgB ++ Bs (zs 64) := Bs_append _ _
    rw [h]; exact hown)
  have HBW := Lib.hid (HB1.out.grown hg HB1.out.size (fun j hj => by
    rcases HO1.out.2 with ⟨h, _⟩ | ⟨q, cap, cur, h, hq, _⟩
    · rw [h] at hj; cases hj
    · rw [h] at hj; cases hj; exact hq))
  clear hown hg hat
  go_wp2_with fail
  go_ret2
  exact ⟨_, rfl, HOW.out, HBW.out⟩
theorem wpList_buildE {P : Program} {ops : Array Oper} {rest : List Oper} {o : Oper} {a : Act} {w : World} {Q : Exit → Act → World → Prop} (hg : o.guard = none) (t : TypeId) (parts : Array (Nat × Operand)) (ho : o.op = .build t parts) (c : Array Value)
    (hb : P.built t (parts.map fun (i, x) => (i, a.eval x)).toList = some c) (h : wpList P ops Q rest (a.put o.dst (.agg c)) w) : wpList P ops Q (o :: rest) a w :=
  wpList_build hg t parts ho (by rw [hb]; rfl) (by rw [hb]; exact h)
set_option maxHeartbeats 3200000 in
theorem awake17 (w : World) : Calls Tryz.prog 4 #[] w fun e w' => e = .returned (.bool true) ∧ Below w.heap.size w w' := by
  have HE := Lib.hid (encode_ex w)
  go_enter Tryz.func4, Tryz.ntmps4
  go_wp2_with (first | (refine wpList_buildE rfl 43 _ rfl opE.toArray (by kernel_rfl) ?_) | (refine wpList_buildE rfl 55 _ rfl enE.toArray (by kernel_rfl) ?_))
  refine HE.out.mono ?_
  rintro e W1 ⟨v, rfl, ho, hb⟩
  rcases ho.2 with ⟨_, h⟩ | ⟨q, cap, cur, rfl, hq, hh, h1, h2, h3, h4⟩
  · exact absurd h (by omega)
  have hrow : Row W1 q 5 (Bs enB ++ cur.toList.drop 133) := by
    show W1.heap[q]? = _
    rw [← h4, List.take_append_drop]
    exact hh
  have b0 : W1.cell? ⟨q, 0, none⟩ = some (.int .u8 1) := hrow.cell (by rw [List.getElem?_append_left (by decide)]; kernel_rfl)
  have b34 : W1.cell? ⟨q, 34, none⟩ = some (.int .u8 3) := hrow.cell (by rw [List.getElem?_append_left (by decide)]; kernel_rfl)
  have b36 : W1.cell? ⟨q, 36, none⟩ = some (.int .u8 3) := hrow.cell (by rw [List.getElem?_append_left (by decide)]; kernel_rfl)
  have HB := Lib.hid hb
  clear hb ho hh h1 h2 h3 h4 hrow
  go_wp2_with fail
  go_ret
  exact ⟨rfl, HB.out⟩

end Go.Proofs.YtkhadfliandpmaaGreat
