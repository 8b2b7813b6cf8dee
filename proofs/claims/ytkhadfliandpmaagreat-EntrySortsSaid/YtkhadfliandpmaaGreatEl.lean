/- The operation of the example: right, and its bytes. -/
import Derived.Test.YtkhadfliandpmaaGreatEk
import Derived.Test.YtkhadfliandpmaaGreatWriteB
namespace Go.Proofs.YtkhadfliandpmaaGreat
set_option maxRecDepth 100000
set_option linter.unusedSimpArgs false
set_option linter.unusedVariables false
open Go.RowKit

set_option maxHeartbeats 400000 in
theorem out_anyE (a : Addr) (v : Value) (l : List UInt8) (w : World) (hw : Wr w a v l) (hlen : l.length ≤ 140737488355328) :
    Calls Tryz.prog 23 #[.pointer (some a)] w fun e w' => ∃ v', e = .returned v' ∧ w'.ownsRow w.heap.size 5 1 v' l.length (Bs l) ∧ Below w.heap.size w w' := by
  obtain ⟨A, c, rfl⟩ := own_slice hw.row
  have hc := hw.cell
  have HR := Lib.hid (Rd.of_own hw.row)
  clear hw
  go_enter Tryz.func23, Tryz.ntmps23
  go_wp2_with fail
  refine (clone_any A l.length c l _ _ HR.out hlen).mono ?_
  rintro e w' ⟨v', rfl, hown, hbel⟩
  have HO := Lib.hid hown
  have HB := Lib.hid hbel
  clear hown hbel
  go_wp2_with fail
  go_ret
  exact ⟨_, rfl, HO.out, HB.out⟩
/-- A writer of the call's own. -/
structure WE (W w : World) (a : Addr) (v : Value) (l : List UInt8) : Prop where
  wr : Wr w a v l
  be : Below W.heap.size W w
  up : ∀ j, v.ownBlock = some j → W.heap.size ≤ j
  at_ : W.heap.size ≤ a.block
theorem WE.wrote {W w w' : World} {a : Addr} {v v' : Value} {l k : List UInt8} (h : WE W w a v l) (hw : Wrote w w' a v v' k) : WE W w' a v' k :=
  ⟨hw.wr, h.be.trans (hw.only.below h.be.size fun j hj => by
      rcases hj with rfl | hj
      · exact h.at_
      · exact h.up j hj),
   fun j hj => by
    rcases hw.near with e | ⟨g, e, hg⟩
    · exact h.up j (e ▸ hj)
    · rw [e] at hj; injection hj with hj; exact hj ▸ Nat.le_trans h.be.size hg, h.at_⟩
theorem WE.below {W w w' : World} {a : Addr} {v : Value} {l : List UInt8} (h : WE W w a v l) (hb : Below w.heap.size w w') : WE W w' a v l :=
  ⟨h.wr.below hb, h.be.trans (hb.mono h.be.size), h.up, h.at_⟩
theorem WE.new {W w : World} (hb : Below W.heap.size W w) : WE W (w.alloc (.cells #[.slice none 0 0] 65)) ⟨w.heap.size, 0, none⟩ (.slice none 0 0) [] :=
  ⟨⟨by simp, by simp, World.ownsRow_nil _ _ _ _, by simp [Value.ownBlock]⟩, hb.trans ((below_newE w _).mono hb.size), fun j hj => by simp [Value.ownBlock] at hj, hb.size⟩

abbrev opE : List Value := [.int .i64 3, .slice none 0 0, .int .u64 3, .int .u64 0, .int .i64 0, .int .i64 0, .string ⟨#[]⟩, .slice none 0 0, .slice none 0 0, .slice none 0 0]
theorem opE_info : (Tryz.prog.info? 43).map (·.size) = some opE.toArray.size := by kernel_rfl
theorem idx_steps (f : Value) (w : World) : Calls Tryz.prog 100 #[.slice none 0 0, f] w fun e w' => e = .returned (.int .i64 (-1)) ∧ w' = w := by
  go_enter Tryz.func100, Tryz.ntmps100
  go_wp2_with fail
  refine wp_loop_rounds 1 ?_
  rw [rounds_succ]
  go_wp2_with fail
  go_ret
  exact ⟨rfl, rfl⟩
theorem has_steps (f : Value) (w : World) : Calls Tryz.prog 82 #[.slice none 0 0, f] w fun e w' => e = .returned (.bool false) ∧ w' = w := by
  go_enter Tryz.func82, Tryz.ntmps82
  go_wp2_with fail
  refine (idx_steps _ _).mono ?_
  rintro e w' ⟨rfl, rfl⟩
  go_wp2_with fail
  go_ret
  exact ⟨rfl, rfl⟩
theorem pright_nil (w : World) : Calls Tryz.prog 68 #[.slice none 0 0] w fun e w' => e = .returned (.bool true) ∧ w' = w := by
  go_enter Tryz.func68, Tryz.ntmps68
  go_wp2_with fail
  refine (has_steps _ _).mono ?_
  rintro e w' ⟨rfl, rfl⟩
  go_wp2_with fail
  go_ret
  exact ⟨rfl, rfl⟩
theorem element_op (w : World) : Calls Tryz.prog 70 #[.agg opE.toArray] w fun e w' => e = .returned (.bool true) ∧ Below w.heap.size w w' := by
  have HB := Lib.hid (below_newE w (.cells opE.toArray 43))
  have c2 := (Row.new w opE 43).cell (k := 2) rfl
  have c3 := (Row.new w opE 43).cell (k := 3) rfl
  go_enter Tryz.func70, Tryz.ntmps70
  go_wp2_with fail
  go_ret
  exact ⟨rfl, HB.out⟩
set_option maxHeartbeats 1600000 in
theorem right_op (w : World) : Calls Tryz.prog 53 #[.agg opE.toArray] w fun e w' => e = .returned (.bool true) ∧ Below w.heap.size w w' := by
  have HB := Lib.hid (below_newE w (.cells opE.toArray 43))
  have HR := Lib.hid (Row.new w opE 43)
  have c0 := HR.out.cell (k := 0) rfl
  have c1 := HR.out.cell (k := 1) rfl
  have c2 := HR.out.cell (k := 2) rfl
  have c3 := HR.out.cell (k := 3) rfl
  have HE := Lib.hid element_op
  have HV := Lib.hid sameV
  go_enter Tryz.func53, Tryz.ntmps53
  go_wp2_with fail
  refine (pright_nil _).mono ?_
  rintro e W1 ⟨rfl, rfl⟩
  go_wp2_with (refine wpList_load_row rfl 43 (.tmp 1) rfl w.heap.size rfl 43 _ (0, 0) _ HR.out Tryz.underlying43 rfl opE_info ?_)
  refine (HE.out _).mono ?_
  rintro e W2 ⟨rfl, hb⟩
  have HR2 := Lib.hid (HR.out.belowAll hb)
  have HB2 := Lib.hid (HB.out.trans (hb.mono HB.out.size))
  clear hb c0 c1 c2 c3
  have c4 := HR2.out.cell (k := 4) rfl
  have c5 := HR2.out.cell (k := 5) rfl
  have c6 := HR2.out.cell (k := 6) rfl
  have c7 := HR2.out.cell (k := 7) rfl
  have c8 := HR2.out.cell (k := 8) rfl
  have c9 := HR2.out.cell (k := 9) rfl
  go_wp2_with fail
  refine (HV.out _).mono ?_
  rintro e W3 ⟨rfl, hb⟩
  have HB3 := Lib.hid (HB2.out.trans (hb.mono HB2.out.size))
  clear hb
  go_wp2_with fail
  go_ret
  exact ⟨rfl, HB3.out⟩
theorem pwrite_nil (w : World) (a : Addr) (v : Value) (l : List UInt8) (hw : Wr w a v l) (hl : l.length ≤ 1000) :
    Calls Tryz.prog 71 #[.pointer (some a), .slice none 0 0] w fun e w' => e = .returned (.tuple #[]) ∧ ∃ v', Wrote w w' a v v' (l ++ [0]) := by
  have h := number_any a v l 0 w hw (by omega) (by omega)
  rw [enc_small (by omega)] at h
  have HN := Lib.hid h
  clear h hw
  go_enter Tryz.func71, Tryz.ntmps71
  go_wp2_with fail
  refine (pright_nil _).mono ?_
  rintro e W1 ⟨rfl, rfl⟩
  go_wp2_with fail
  refine HN.out.mono ?_
  rintro e W2 ⟨rfl, v2, hw2⟩
  have HW2 := Lib.hid hw2
  clear hw2
  go_wp2_with fail
  refine wp_loop_rounds 1 ?_
  rw [rounds_succ]
  go_wp2_with fail
  go_end0
  exact ⟨rfl, v2, HW2.out⟩
set_option maxHeartbeats 1600000 in
theorem write_op (W w : World) (a : Addr) (hw : WE W w a (.slice none 0 0) []) :
    Calls Tryz.prog 54 #[.pointer (some a), .agg opE.toArray] w fun e w' => e = .returned .nilIface ∧ ∃ v', WE W w' a v' [3, 0, 3] := by
  have HR := Lib.hid (Row.new w opE 43)
  have hw0 := hw.below (below_newE w (.cells opE.toArray 43))
  have HW := Lib.hid hw0
  have HBY := Lib.hid (byte_any a _ [] 3 _ hw0.wr (by simp))
  have HAL := Lib.hid hw.wr.lt
  have c0 := HR.out.cell (k := 0) rfl
  clear hw0 hw
  go_enter Tryz.func54, Tryz.ntmps54
  go_wp2_with fail
  refine HBY.out.mono ?_
  rintro e W1 ⟨rfl, v1, hw1⟩
  have hal : a.block < w.heap.size := HAL.out
  have HR1 := Lib.hid (HR.out.only hw1.only (fun h => by
    rcases h with h | h
    · omega
    · simp [Value.ownBlock] at h))
  have HNE1 := Lib.hid (show v1.ownBlock ≠ some w.heap.size from fun h => by
    rcases hw1.rows _ h with h | h
    · simp [Value.ownBlock] at h
    · have h2 : (w.alloc (.cells opE.toArray 43)).heap.size = w.heap.size + 1 := by simp
      omega)
  have HSZ1 := Lib.hid (show w.heap.size + 1 ≤ W1.heap.size from by have h := hw1.only.size; simpa using h)
  have HWE1 := Lib.hid (HW.out.wrote hw1)
  have HPW := Lib.hid (pwrite_nil W1 a v1 _ hw1.wr (by simp))
  clear hw1 c0
  have c1 := HR1.out.cell (k := 1) rfl
  go_wp2_with fail
  refine HPW.out.mono ?_
  rintro e W2 ⟨rfl, v2, hw2⟩
  have HR2 := Lib.hid (HR1.out.only hw2.only (fun h => by
    rcases h with h | h
    · omega
    · exact HNE1.out h))
  have HNE2 := Lib.hid (show v2.ownBlock ≠ some w.heap.size from fun h => by
    rcases hw2.rows _ h with h | h
    · exact HNE1.out h
    · have := HSZ1.out; omega)
  have HWE2 := Lib.hid (HWE1.out.wrote hw2)
  have hn := number_any a v2 _ 3 W2 hw2.wr (by omega) (by simp)
  rw [enc_small (by omega)] at hn
  have HN := Lib.hid hn
  clear hw2 hn c1
  have d0 := HR2.out.cell (k := 0) rfl
  have d2 := HR2.out.cell (k := 2) rfl
  go_wp2_with fail
  refine HN.out.mono ?_
  rintro e W3 ⟨rfl, v3, hw3⟩
  have HWE3 := Lib.hid (HWE2.out.wrote hw3)
  clear hw3
  go_wp2_with fail
  go_ret
  exact ⟨rfl, v3, HWE3.out⟩
set_option maxHeartbeats 1600000 in
theorem encode_op (w : World) : Calls Tryz.prog 37 #[.agg opE.toArray] w fun e w' => ∃ A c, e = .returned (.tuple #[.slice A 3 c, .nilIface]) ∧ w'.ownsRow w.heap.size 5 1 (.slice A 3 c) 3 (Bs [3, 0, 3]) ∧ Below w.heap.size w w' := by
  have HR := Lib.hid (Row.new w opE 43)
  have HB := Lib.hid (below_newE w (.cells opE.toArray 43))
  have HRI := Lib.hid right_op
  go_enter Tryz.func37, Tryz.ntmps37
  go_wp2_with (refine wpList_load_row rfl 43 (.tmp 1) rfl w.heap.size rfl 43 _ (0, 0) _ HR.out Tryz.underlying43 rfl opE_info ?_)
  refine (HRI.out _).mono ?_
  rintro e W1 ⟨rfl, hb⟩
  have HB1 := Lib.hid (HB.out.trans (hb.mono HB.out.size))
  have HR1 := Lib.hid ((HR.out.belowAll hb).alloc (.cells #[.slice none 0 0] 65))
  have HWR := Lib.hid (write_op w _ _ (WE.new HB1.out))
  clear hb
  go_wp2_with (refine wpList_load_row rfl 43 (.tmp 1) rfl w.heap.size rfl 43 _ (0, 0) _ HR1.out Tryz.underlying43 rfl opE_info ?_)
  refine HWR.out.mono ?_
  rintro e W2 ⟨rfl, v2, hw2⟩
  have HW2 := Lib.hid hw2
  clear hw2
  go_wp2_with fail
  refine (out_anyE _ v2 [3, 0, 3] W2 HW2.out.wr (by simp)).mono ?_
  rintro e W3 ⟨v3, rfl, ho, hb⟩
  obtain ⟨A3, c3, rfl⟩ := own_slice ho
  have HO := Lib.hid (own_base ho HW2.out.be.size)
  have HB3 := Lib.hid (HW2.out.be.trans (hb.mono HW2.out.be.size))
  clear ho hb
  have hl : ([3, 0, 3] : List UInt8).length = 3 := rfl
  go_wp2_with fail
  go_ret2
  exact ⟨_, _, rfl, HO.out, HB3.out⟩

end Go.Proofs.YtkhadfliandpmaaGreat
