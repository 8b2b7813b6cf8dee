/- A value without lists and parts, copied: Walk with what makes it its own, Ends, Copy; for any such value. -/
import Derived.Test.YtpegkalhjnldkaaPl2
namespace Go.Proofs.Ytpegkalhjnldkaa
set_option maxRecDepth 100000
set_option linter.unusedSimpArgs false
set_option linter.unusedVariables false
open Go.RowKit

set_option maxHeartbeats 1600000 in
theorem walkc_leaf (g f : Nat) (K N S : Value) (w : World) (h : Row w g 37 (leafC K N S)) (hf : w.cell? ⟨f, 0, none⟩ = some (.func (.func 60) #[] #[])) :
    Calls Try.prog 71 #[.pointer (some ⟨g, 0, none⟩), .func (.func 43) #[] #[], .func (.func 72) #[] #[.pointer (some ⟨f, 0, none⟩)]] w fun e w' => e = .returned (.bool true) ∧ Below w.heap.size w w' := by
  have HV := Lib.hid (copyc_leaf g f 1 K N S w h hf)
  have HR := Lib.hid h
  have HP := Lib.hid (parts_any g (.slice none 0 0))
  clear h hf
  go_enter Try.func71, Try.ntmps71
  go_wp2_with fail
  refine HV.out.mono ?_
  rintro e W1 ⟨rfl, hb⟩
  have hr1 := HR.out.belowAll hb
  have HRN := Lib.hid (Row.new W1 [.pointer (some ⟨g, 0, none⟩), .int .i64 0] 110)
  have HB0 := Lib.hid (hb.trans ((below_new W1 (.cells #[.pointer (some ⟨g, 0, none⟩), .int .i64 0] 110)).mono hb.size))
  have H5 := Lib.hid ((hr1.alloc (.cells #[.pointer (some ⟨g, 0, none⟩), .int .i64 0] 110)).cell (k := 5) rfl)
  clear hb hr1
  go_wp2_with fail
  go_loopw [7, 8, 9, 10] (fun v _ _ _ wr => ∃ n : Nat, n ≤ 1 ∧ v = .slice (some ⟨W1.heap.size, 0, none⟩) n 1 ∧ wr = W1.alloc (.cells #[.pointer (some ⟨g, 0, none⟩), .int .i64 0] 110)) (fun v _ _ _ _ => lenS v)
  case atStart => exact ⟨1, Nat.le_refl _, rfl, rfl⟩
  case round =>
    obtain ⟨n, hn, rfl, rfl⟩ := hrel
    by_cases h0 : n = 0
    · subst h0
      go_wp2_with fail
      go_ret
      exact ⟨rfl, HB0.out⟩
    · obtain rfl : n = 1 := by omega
      have HPP := Lib.hid (HP.out _ H5.out)
      have c0 := HRN.out.cell (k := 0) rfl
      have c1 := HRN.out.cell (k := 1) rfl
      go_wp2_with fail
      refine HPP.out.mono ?_
      rintro e W2 ⟨rfl, rfl⟩
      go_wp2_with fail
      go_roundw
      case rel => exact ⟨0, by omega, by first | rfl | trivial, by first | rfl | trivial⟩
      case measure => simp [lenS]
theorem ends_leaf (K N S : Value) (w : World) :
    Calls Try.prog 64 #[.agg #[K, N, S, .slice none 0 0, .slice none 0 0, .slice none 0 0], .func (.func 43) #[] #[]] w fun e w' => e = .returned (.bool true) ∧ Below w.heap.size w w' := by
  have HW := Lib.hid (walke_leaf w.heap.size (w.alloc (.cells #[K, N, S, .slice none 0 0, .slice none 0 0, .slice none 0 0] 37)) ((Row.new w (leafC K N S) 37).cell (k := 5) rfl))
  go_enter Try.func64, Try.ntmps64
  go_wp2_with fail
  refine HW.out.mono ?_
  rintro e W1 ⟨rfl, hb⟩
  have HB := Lib.hid (below_then hb)
  clear hb
  go_wp2_with fail
  go_ret
  exact ⟨rfl, HB.out⟩
theorem below_then2 {w w' : World} {o p : Obj} (h : Below ((w.alloc o).alloc p).heap.size ((w.alloc o).alloc p) w') : Below w.heap.size w w' := below_then (below_then h)
theorem below_then3 {w w' : World} {o p q : Obj} (h : Below (((w.alloc o).alloc p).alloc q).heap.size (((w.alloc o).alloc p).alloc q) w') : Below w.heap.size w w' := below_then (below_then (below_then h))
theorem leaf_one (k n : Int) (s : ByteArray) : (#[Value.int .i64 k, Value.int .i64 n, Value.string s, .slice none 0 0, .slice none 0 0, .slice none 0 0].all fun x : Value => x.oneCell') = true := by simp [Value.oneCell']
theorem v_info6 (a b c d e f : Value) : (Try.prog.info? 37).map (·.size) = some (#[a, b, c, d, e, f] : Array Value).size := v_size
set_option maxHeartbeats 1600000 in
theorem tcopy_leaf (k n : Int) (s : ByteArray) (w : World) :
    Calls Try.prog 59 #[.agg #[.int .i64 k, .int .i64 n, .string s, .slice none 0 0, .slice none 0 0, .slice none 0 0], .func (.func 43) #[] #[], .func (.func 60) #[] #[]] w fun e w' => e = .returned (.agg #[.int .i64 k, .int .i64 n, .string s, .slice none 0 0, .slice none 0 0, .slice none 0 0]) ∧ Below w.heap.size w w' := by
  have HE := Lib.hid (ends_leaf (.int .i64 k) (.int .i64 n) (.string s))
  have r3 := ((Row.new w (leafC (.int .i64 k) (.int .i64 n) (.string s)) 37).alloc (.cells #[.func (.func 60) #[] #[]] 83)).alloc (.cells #[.int .i64 0, .int .i64 0, .string { data := #[] }, .slice none 0 0, .slice none 0 0, .slice none 0 0] 37)
  have rf := (Row.new1 w (.cells (leafC (.int .i64 k) (.int .i64 n) (.string s)).toArray 37) [.func (.func 60) #[] #[]] 83).alloc (.cells #[.int .i64 0, .int .i64 0, .string { data := #[] }, .slice none 0 0, .slice none 0 0, .slice none 0 0] 37)
  have r6 := Row.new2 w (.cells (leafC (.int .i64 k) (.int .i64 n) (.string s)).toArray 37) (.cells #[.func (.func 60) #[] #[]] 83) (leafC (.int .i64 0) (.int .i64 0) (.string { data := #[] })) 37
  have HB0 := Lib.hid (Below.alloc3 w (.cells (leafC (.int .i64 k) (.int .i64 n) (.string s)).toArray 37) (.cells #[.func (.func 60) #[] #[]] 83) (.cells (leafC (.int .i64 0) (.int .i64 0) (.string { data := #[] })).toArray 37))
  have R3 := Lib.hid r3
  have RF := Lib.hid rf
  have R6 := Lib.hid r6
  clear r3 rf r6
  go_enter Try.func59, Try.ntmps59
  go_wp2_with fail
  refine (HE.out _).mono ?_
  rintro e W1 ⟨rfl, hb⟩
  have hb1 := HB0.out.trans (hb.mono HB0.out.size)
  have r3 := R3.out.belowAll hb
  have rf := RF.out.belowAll hb
  have r6 := R6.out.belowAll hb
  have HWK := Lib.hid (walkc_leaf w.heap.size (w.heap.size + 1) _ _ _ W1 r3 (rf.cell (k := 0) rfl))
  have R3' := Lib.hid r3
  have R6' := Lib.hid r6
  have HB1 := Lib.hid hb1
  clear hb hb1 r3 rf r6
  go_wp2_with fail
  refine HWK.out.mono ?_
  rintro e W2 ⟨rfl, hb⟩
  have R3'' := Lib.hid (R3'.out.belowAll hb)
  have R6'' := Lib.hid (R6'.out.belowAll hb)
  have HB2 := Lib.hid (HB1.out.trans (hb.mono HB1.out.size))
  clear hb
  go_wp2_with (first
    | (refine wpList_loadr rfl 37 (.tmp 3) rfl _ _ rfl (ld_val _ rfl R3''.out.cells) ?_)
    | (refine wpList_store_row rfl 37 (.tmp 6) (.tmp 16) rfl (w.heap.size + 1 + 1) #[.int .i64 k, .int .i64 n, .string s, .slice none 0 0, .slice none 0 0, .slice none 0 0] rfl rfl 37 _ R6''.out (v_info6 _ _ _ _ _ _) rfl (leaf_one _ _ _) ?_))
  have hgot : (W2.setRow (w.heap.size + 1 + 1) #[.int .i64 k, .int .i64 n, .string s, .slice none 0 0, .slice none 0 0, .slice none 0 0]).heap[w.heap.size + 1 + 1]? = some (.cells #[.int .i64 k, .int .i64 n, .string s, .slice none 0 0, .slice none 0 0, .slice none 0 0] 37 (0, 0)) := setRow_heap W2 _ _ _ _ _ R6''.out
  (try simp only [Exit.inBlock, Exit.then])
  refine bodyPost_ret (results_cell_row (by rfl) _ _ (w.heap.size + 1 + 1) _ _ _ _ (by rfl) hgot Try.underlying37 rfl (v_info6 _ _ _ _ _ _)) rfl ?_
  exact ⟨rfl, below_setRow HB2.out (by omega) _⟩
set_option maxHeartbeats 1600000 in
theorem vcopy_leaf (k n : Int) (s : ByteArray) (w : World) :
    Calls Try.prog 41 #[.agg #[.int .i64 k, .int .i64 n, .string s, .slice none 0 0, .slice none 0 0, .slice none 0 0]] w fun e w' => e = .returned (.agg #[.int .i64 k, .int .i64 n, .string s, .slice none 0 0, .slice none 0 0, .slice none 0 0]) ∧ Below w.heap.size w w' := by
  have HC := Lib.hid (tcopy_leaf k n s)
  have R2 := Lib.hid (Row.new1 w (.cells (leafC (.int .i64 k) (.int .i64 n) (.string s)).toArray 37) (leafC (.int .i64 0) (.int .i64 0) (.string { data := #[] })) 37)
  have HB0 := Lib.hid (Below.alloc2 w (.cells (leafC (.int .i64 k) (.int .i64 n) (.string s)).toArray 37) (.cells (leafC (.int .i64 0) (.int .i64 0) (.string { data := #[] })).toArray 37))
  go_enter Try.func41, Try.ntmps41
  go_wp2_with fail
  refine (HC.out _).mono ?_
  rintro e W1 ⟨rfl, hb⟩
  have R2' := Lib.hid (R2.out.belowAll hb)
  have HB1 := Lib.hid (HB0.out.trans (hb.mono HB0.out.size))
  clear hb
  go_wp2_with (refine wpList_store_row rfl 37 (.tmp 2) (.tmp 4) rfl (w.heap.size + 1) #[.int .i64 k, .int .i64 n, .string s, .slice none 0 0, .slice none 0 0, .slice none 0 0] rfl rfl 37 _ R2'.out (v_info6 _ _ _ _ _ _) rfl (leaf_one _ _ _) ?_)
  have hgot : (W1.setRow (w.heap.size + 1) #[.int .i64 k, .int .i64 n, .string s, .slice none 0 0, .slice none 0 0, .slice none 0 0]).heap[w.heap.size + 1]? = some (.cells #[.int .i64 k, .int .i64 n, .string s, .slice none 0 0, .slice none 0 0, .slice none 0 0] 37 (0, 0)) := setRow_heap W1 _ _ _ _ _ R2'.out
  (try simp only [Exit.inBlock, Exit.then])
  refine bodyPost_ret (results_cell_row (by rfl) _ _ (w.heap.size + 1) _ _ _ _ (by rfl) hgot Try.underlying37 rfl (v_info6 _ _ _ _ _ _)) rfl ?_
  exact ⟨rfl, below_setRow HB1.out (by omega) _⟩

end Go.Proofs.Ytpegkalhjnldkaa
