/- The example: Between of two leaves. -/
import Derived.Test.YtpegkalhjnldkaaDk
import Derived.Test.YtpegkalhjnldkaaCa
namespace Go.Proofs.Ytpegkalhjnldkaa
set_option maxRecDepth 100000
set_option linter.unusedSimpArgs false
set_option linter.unusedVariables false
open Go.RowKit

abbrev lfS : Array Value := #[.int .i64 2, .slice none 0 0, .slice none 0 0]
abbrev lfV (n : Int) : Array Value := #[.int .i64 2, .int .i64 n, .string ⟨#[]⟩, .slice none 0 0, .slice none 0 0, .slice none 0 0]
theorem below2D (w : World) (o o' : Obj) : Below w.heap.size w ((w.alloc o).alloc o') := (below_newD w o).alloc (by simp) o'
theorem row_new1 (w : World) (o : Obj) (l : List Value) (T : TypeId) : Row ((w.alloc o).alloc (.cells l.toArray T)) (w.heap.size + 1) T l := by
  have h := Row.new (w.alloc o) l T
  have e : (w.alloc o).heap.size = w.heap.size + 1 := by simp
  rwa [e] at h
theorem sfit_leaf (w : World) : Calls Try.prog 29 #[.agg lfS] w fun e w' => e = .returned (.bool true) ∧ Below w.heap.size w w' := by
  have HB := Lib.hid (below_newD w (.cells lfS 29))
  go_enter Try.func29, Try.ntmps29
  go_wp2_with fail
  go_ret
  exact ⟨rfl, HB.out⟩
theorem sidx_none (fv : Value) (c : Nat) (w : World) : Calls Try.prog 49 #[.slice none 0 c, fv] w fun e w' => e = .returned (.int .i64 (-1)) ∧ w' = w := by
  go_enter Try.func49, Try.ntmps49
  go_wp2_with fail
  refine wp_loop_rounds 1 ?_
  rw [rounds_succ]
  go_wp2_with fail
  go_ret
  exact ⟨rfl, rfl⟩
theorem scon_none (fv : Value) (c : Nat) (w : World) : Calls Try.prog 30 #[.slice none 0 c, fv] w fun e w' => e = .returned (.bool false) ∧ w' = w := by
  have HI := Lib.hid sidx_none
  go_enter Try.func30, Try.ntmps30
  go_wp2_with fail
  refine (HI.out _ _ _).mono ?_
  rintro e w1 ⟨rfl, rfl⟩
  go_wp2_with fail
  go_ret
  exact ⟨rfl, rfl⟩
theorem vidx_none (fv : Value) (c : Nat) (w : World) : Calls Try.prog 55 #[.slice none 0 c, fv] w fun e w' => e = .returned (.int .i64 (-1)) ∧ w' = w := by
  go_enter Try.func55, Try.ntmps55
  go_wp2_with fail
  refine wp_loop_rounds 1 ?_
  rw [rounds_succ]
  go_wp2_with fail
  go_ret
  exact ⟨rfl, rfl⟩
theorem vcon_none (fv : Value) (c : Nat) (w : World) : Calls Try.prog 35 #[.slice none 0 c, fv] w fun e w' => e = .returned (.bool false) ∧ w' = w := by
  have HI := Lib.hid vidx_none
  go_enter Try.func35, Try.ntmps35
  go_wp2_with fail
  refine (HI.out _ _ _).mono ?_
  rintro e w1 ⟨rfl, rfl⟩
  go_wp2_with fail
  go_ret
  exact ⟨rfl, rfl⟩
theorem sright_leaf (w : World) : Calls Try.prog 18 #[.agg lfS, .int .i64 1] w fun e w' => e = .returned (.bool true) ∧ Below w.heap.size w w' := by
  have HB := Lib.hid (below2D w (.cells lfS 29) (.cells #[.int .i64 1] 3))
  have HF := Lib.hid sfit_leaf
  have HC := Lib.hid scon_none
  have HR := Lib.hid ((Row.new w lfS.toList 29).belowAll (below_newD _ (.cells #[.int .i64 1] 3)))
  go_enter Try.func18, Try.ntmps18
  go_wp2_with fail
  refine (HF.out _).mono ?_
  rintro e w1 ⟨rfl, hb⟩
  have HR1 := Lib.hid (HR.out.belowAll hb)
  have HB1 := Lib.hid (HB.out.trans (hb.mono HB.out.size))
  clear hb
  have c2 := HR1.out.cell (k := 2) rfl
  go_wp2_with fail
  refine (HC.out _ _ _).mono ?_
  rintro e w2 ⟨rfl, rfl⟩
  go_wp2_with fail
  go_ret
  exact ⟨rfl, HB1.out⟩
theorem sRight_leaf (w : World) : Calls Try.prog 10 #[.agg lfS] w fun e w' => e = .returned (.bool true) ∧ Below w.heap.size w w' := by
  have HB := Lib.hid (below_newD w (.cells lfS 29))
  have HF := Lib.hid sright_leaf
  go_enter Try.func10, Try.ntmps10
  go_wp2_with fail
  refine (HF.out _).mono ?_
  rintro e w1 ⟨rfl, hb⟩
  have HB1 := Lib.hid (HB.out.trans (hb.mono HB.out.size))
  clear hb
  go_wp2_with fail
  go_ret
  exact ⟨rfl, HB1.out⟩
theorem vbare_leaf (n : Int) (w : World) : Calls Try.prog 50 #[.agg (lfV n)] w fun e w' => e = .returned (.bool true) ∧ Below w.heap.size w w' := by
  have HB := Lib.hid (below_newD w (.cells (lfV n) 37))
  go_enter Try.func50, Try.ntmps50
  go_wp2_with fail
  go_ret
  exact ⟨rfl, below_newD w _⟩
theorem vfit_leaf (n : Int) (w : World) : Calls Try.prog 51 #[.agg (lfV n)] w fun e w' => e = .returned (.bool true) ∧ Below w.heap.size w w' := by
  have HB := Lib.hid (below_newD w (.cells (lfV n) 37))
  go_enter Try.func51, Try.ntmps51
  go_wp2_with fail
  go_ret
  exact ⟨rfl, HB.out⟩
theorem vright_leaf (n : Int) (w : World) : Calls Try.prog 32 #[.agg (lfV n), .int .i64 1] w fun e w' => e = .returned (.bool true) ∧ Below w.heap.size w w' := by
  have HB := Lib.hid (below2D w (.cells (lfV n) 37) (.cells #[.int .i64 1] 3))
  have HF := Lib.hid (vbare_leaf n)
  have HF2 := Lib.hid (vfit_leaf n)
  have HC := Lib.hid vcon_none
  have HR := Lib.hid ((Row.new w (lfV n).toList 37).belowAll (below_newD _ (.cells #[.int .i64 1] 3)))
  go_enter Try.func32, Try.ntmps32
  go_wp2_with fail
  refine (HF.out _).mono ?_
  rintro e w1 ⟨rfl, hb⟩
  have HR1 := Lib.hid (HR.out.belowAll hb)
  have HB1 := Lib.hid (HB.out.trans (hb.mono HB.out.size))
  clear hb
  have c0 := HR1.out.cell (k := 0) rfl
  have c1 := HR1.out.cell (k := 1) rfl
  have c2 := HR1.out.cell (k := 2) rfl
  have c3 := HR1.out.cell (k := 3) rfl
  have c4 := HR1.out.cell (k := 4) rfl
  have c5 := HR1.out.cell (k := 5) rfl
  go_wp2_with fail
  refine (HF2.out _).mono ?_
  rintro e w2 ⟨rfl, hb⟩
  have HR2 := Lib.hid (HR1.out.belowAll hb)
  have HB2 := Lib.hid (HB1.out.trans (hb.mono HB1.out.size))
  clear hb c0 c1 c2 c3 c4 c5
  have c5 := HR2.out.cell (k := 5) rfl
  go_wp2_with fail
  refine (HC.out _ _ _).mono ?_
  rintro e w3 ⟨rfl, rfl⟩
  go_wp2_with fail
  go_ret
  exact ⟨rfl, HB2.out⟩
theorem vRight_leaf (n : Int) (w : World) : Calls Try.prog 19 #[.agg (lfV n)] w fun e w' => e = .returned (.bool true) ∧ Below w.heap.size w w' := by
  have HB := Lib.hid (below_newD w (.cells (lfV n) 37))
  have HF := Lib.hid (vright_leaf n)
  go_enter Try.func19, Try.ntmps19
  go_wp2_with fail
  refine (HF.out _).mono ?_
  rintro e w1 ⟨rfl, hb⟩
  have HB1 := Lib.hid (HB.out.trans (hb.mono HB.out.size))
  clear hb
  go_wp2_with fail
  go_ret
  exact ⟨rfl, HB1.out⟩
theorem sfits_leaf (n : Int) (w : World) : Calls Try.prog 20 #[.agg (lfV n), .agg lfS] w fun e w' => e = .returned (.bool true) ∧ Below w.heap.size w w' := by
  have HB := Lib.hid (below2D w (.cells (lfV n) 37) (.cells lfS 29))
  go_enter Try.func20, Try.ntmps20
  go_wp2_with fail
  go_ret
  exact ⟨rfl, HB.out⟩
theorem sFits_leaf (n : Int) (w : World) : Calls Try.prog 11 #[.agg (lfV n), .agg lfS] w fun e w' => e = .returned (.bool true) ∧ Below w.heap.size w w' := by
  have HB := Lib.hid (below2D w (.cells (lfV n) 37) (.cells lfS 29))
  have HF := Lib.hid (vRight_leaf n)
  have HF2 := Lib.hid sRight_leaf
  have HF3 := Lib.hid (sfits_leaf n)
  have HR := Lib.hid ((Row.new w (lfV n).toList 37).belowAll (below_newD _ (.cells lfS 29)))
  have HS := Lib.hid (row_new1 w (.cells (lfV n) 37) lfS.toList 29)
  go_enter Try.func11, Try.ntmps11
  go_wp2_with fail
  refine (HF.out _).mono ?_
  rintro e w1 ⟨rfl, hb⟩
  have HR1 := Lib.hid (HR.out.belowAll hb)
  have HS1 := Lib.hid (HS.out.belowAll hb)
  have HB1 := Lib.hid (HB.out.trans (hb.mono HB.out.size))
  clear hb
  have d0 := HS1.out.cell (k := 0) rfl
  have d1 := HS1.out.cell (k := 1) rfl
  have d2 := HS1.out.cell (k := 2) rfl
  go_wp2_with fail
  refine (HF2.out _).mono ?_
  rintro e w2 ⟨rfl, hb⟩
  have HR2 := Lib.hid (HR1.out.belowAll hb)
  have HS2 := Lib.hid (HS1.out.belowAll hb)
  have HB2 := Lib.hid (HB1.out.trans (hb.mono HB1.out.size))
  clear hb d0 d1 d2
  have c0 := HR2.out.cell (k := 0) rfl
  have c1 := HR2.out.cell (k := 1) rfl
  have c2 := HR2.out.cell (k := 2) rfl
  have c3 := HR2.out.cell (k := 3) rfl
  have c4 := HR2.out.cell (k := 4) rfl
  have c5 := HR2.out.cell (k := 5) rfl
  have d0 := HS2.out.cell (k := 0) rfl
  have d1 := HS2.out.cell (k := 1) rfl
  have d2 := HS2.out.cell (k := 2) rfl
  go_wp2_with fail
  refine (HF3.out _).mono ?_
  rintro e w3 ⟨rfl, hb⟩
  have HB3 := Lib.hid (HB2.out.trans (hb.mono HB2.out.size))
  clear hb
  go_wp2_with fail
  go_ret
  exact ⟨rfl, HB3.out⟩

end Go.Proofs.Ytpegkalhjnldkaa
