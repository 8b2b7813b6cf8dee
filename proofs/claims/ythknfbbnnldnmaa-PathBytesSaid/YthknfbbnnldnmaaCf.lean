/- The law's awake: the chapter's example. -/
import Derived.Test.YthknfbbnnldnmaaCe
namespace Go.Proofs.Ythknfbbnnldnmaa
set_option maxRecDepth 100000
set_option linter.unusedSimpArgs false
set_option linter.unusedVariables false
open Go.RowKit

/-- The world of the example, seven blocks more. -/
noncomputable abbrev exW (w : World) : World :=
  ((((((w.alloc (Obj.cells #[Value.int IntKind.u64 3] 40)).alloc
    (Obj.cells #[Value.int IntKind.i64 1, Value.int IntKind.i64 1, Value.string { data := #[] }, Value.slice none 0 0, Value.slice none 0 0, Value.slice none 0 0] 47)).alloc
    (Obj.cells #[Value.int IntKind.i64 6, Value.int IntKind.i64 0, Value.string { data := #[] }, Value.slice none 0 0, Value.slice (some { block := w.heap.size, off := 0 }) 1 1, Value.slice (some { block := w.heap.size + 1, off := 0 }) 1 1] 47)).alloc
    (Obj.cells #[Value.string { data := #[97] }] 9)).alloc
    (Obj.cells #[Value.int IntKind.i64 6, Value.int IntKind.i64 0, Value.string { data := #[] }, Value.slice none 0 0, Value.slice (some { block := w.heap.size, off := 0 }) 1 1, Value.slice (some { block := w.heap.size + 1, off := 0 }) 1 1] 47)).alloc
    (Obj.cells #[Value.int IntKind.i64 5, Value.int IntKind.i64 0, Value.string { data := #[] }, Value.slice (some { block := w.heap.size + 1 + 1 + 1, off := 0 }) 1 1, Value.slice none 0 0, Value.slice (some { block := w.heap.size + 1 + 1 + 1 + 1, off := 0 }) 1 1] 47)).alloc
    (Obj.cells #[Value.string { data := #[97] }, Value.int IntKind.u64 0, Value.string { data := #[] }, Value.int IntKind.u64 3] 42)
theorem exW_size (w : World) : (exW w).heap.size = w.heap.size + 7 := by simp
theorem exW_below (w : World) : Below w.heap.size w (exW w) := ((below_new w _).alloc (by simp) _ |>.alloc (by simp; omega) _ |>.alloc (by simp; omega) _ |>.alloc (by simp; omega) _ |>.alloc (by simp; omega) _ |>.alloc (by simp; omega) _)
theorem row_new_at {w : World} {g : Nat} (hg : w.heap.size = g) (l : List Value) (T : TypeId) : Row (w.alloc (.cells l.toArray T)) g T l := hg ▸ Row.new w l T
theorem exW_0 (w : World) : Row (exW w) w.heap.size 40 [.int .u64 3] := by
  exact (((((((row_new_at (by simp) _ _).alloc _).alloc _).alloc _).alloc _).alloc _).alloc _)
theorem exW_1 (w : World) : Row (exW w) (w.heap.size + 1) 47 [.int .i64 1, .int .i64 1, .string { data := #[] }, .slice none 0 0, .slice none 0 0, .slice none 0 0] := by
  exact ((((((row_new_at (by simp) _ _).alloc _).alloc _).alloc _).alloc _).alloc _)
theorem exW_3 (w : World) : Row (exW w) (w.heap.size + 1 + 1 + 1) 9 [.string { data := #[97] }] := by
  exact ((((row_new_at (by simp) _ _).alloc _).alloc _).alloc _)
theorem exW_4 (w : World) : Row (exW w) (w.heap.size + 1 + 1 + 1 + 1) 47 [.int .i64 6, .int .i64 0, .string { data := #[] }, .slice none 0 0, .slice (some ⟨w.heap.size, 0, none⟩) 1 1, .slice (some ⟨w.heap.size + 1, 0, none⟩) 1 1] := by
  exact (((row_new_at (by simp) _ _).alloc _).alloc _)
theorem exW_5 (w : World) : Row (exW w) (w.heap.size + 1 + 1 + 1 + 1 + 1) 47 [.int .i64 5, .int .i64 0, .string { data := #[] }, .slice (some ⟨w.heap.size + 1 + 1 + 1, 0, none⟩) 1 1, .slice none 0 0, .slice (some ⟨w.heap.size + 1 + 1 + 1 + 1, 0, none⟩) 1 1] := by
  exact ((row_new_at (by simp) _ _).alloc _)
theorem exW_6 (w : World) : Row (exW w) (w.heap.size + 1 + 1 + 1 + 1 + 1 + 1) 42 [.string { data := #[97] }, .int .u64 0, .string { data := #[] }, .int .u64 3] := by
  exact (row_new_at (by simp) _ _)
theorem exW_ex (w : World) : ExV (exW w) (w.heap.size + 1 + 1 + 1 + 1 + 1) (w.heap.size + 1 + 1 + 1) (w.heap.size + 1 + 1 + 1 + 1) w.heap.size (w.heap.size + 1) :=
  ⟨(exW_5 w).cells, (exW_3 w).cell (k := 0) rfl, (exW_4 w).cells, (exW_0 w).cell (k := 0) rfl, (exW_1 w).cells⟩
theorem exW_steps (w : World) : Sts (exW w) (some ⟨w.heap.size + 1 + 1 + 1 + 1 + 1 + 1, 0, none⟩) 2 [⟨aB, 0⟩, ⟨ByteArray.empty, 3⟩] := by
  have ea : ∀ g j, (⟨g, 0, none⟩ : Addr).add j = ⟨g, j, none⟩ := fun g j => by unfold Addr.add; split <;> simp_all
  refine ⟨rfl, fun _ => ⟨_, rfl, (exW_6 w).lt, fun i x hx => ?_⟩⟩
  rw [add_add, ea, ea]
  match i, hx with
  | 0, hx => simp at hx; subst hx; exact ⟨(exW_6 w).cell (k := 0) rfl, (exW_6 w).cell (k := 1) rfl⟩
  | 1, hx => simp at hx; subst hx; exact ⟨(exW_6 w).cell (k := 2) rfl, (exW_6 w).cell (k := 3) rfl⟩
/-- A guarded load that is wanted, by its run. -/
theorem wpList_loadg {P : Program} {ops : Array Oper} {rest : List Oper} {o : Oper} {a : Act} {w : World} {Q : Exit → Act → World → Prop} (hw : Region.wanted o (yielded ops a.tmps) = true) (ty : TypeId) (x : Operand) (ho : o.op = .load ty x) (u r : Value) (hx : a.eval x = u)
    (hi : (Instr.loadAt ty u).run P w = .ok r w) (h : wpList P ops Q rest (a.put o.dst r) w) : wpList P ops Q (o :: rest) a w := by
  refine BigFrame.wpList_want hw fun K hK => ?_
  unfold Oper.wp execOp
  simp only [ho, Sem.run_bind, Sem.run_pure, Result.andThen_ok, hx, hi]
  exact hK _ _ h
set_option maxHeartbeats 3200000 in
theorem pawake_any (w : World) : Calls Try.prog 5 #[] w fun e w' => e = .returned (.bool true) ∧ Below w.heap.size w w' := by
  have HG := Lib.hid (get_ex _ _ _ _ _ _ 2 _ (exW_ex w) (exW_steps w))
  have HS := Lib.hid same_leaf
  have HA := Lib.hid (fun (w' : World) (hb : Below (exW w).heap.size (exW w) w') => all_ex _ _ _ _ _ w' ((exW_ex w).below hb))
  have HR := Lib.hid (fun (w' : World) (hb : Below (exW w).heap.size (exW w) w') => ld_val _ rfl ((exW_5 w).belowAll hb).cells)
  have HB := Lib.hid (exW_below w)
  go_enter Try.func5, Try.ntmps5
  go_wp2_with fail
  refine HG.out.mono ?_
  rintro e W1 ⟨rfl, hb⟩
  have HB1 := Lib.hid hb
  have HL3 := Lib.hid (ld_val _ rfl (Row.new W1 (leafC (.int .i64 1) (.int .i64 1) (.string ByteArray.empty)) 47).cells)
  have HB2 := Lib.hid (hb.alloc hb.size (.cells (lfA 1 1 ByteArray.empty) 47))
  clear hb
  go_wp2_with fail
  refine (HS.out _).mono ?_
  rintro e W2 ⟨rfl, hb⟩
  have hb3 := HB2.out.trans (hb.mono HB2.out.size)
  have HLD := Lib.hid (HR.out W2 hb3)
  have HAL := Lib.hid (HA.out W2 hb3)
  have HB3 := Lib.hid hb3
  clear hb hb3
  go_wp2_with (refine wpList_loadg (by rfl) 47 (.tmp 2) rfl _ _ rfl HLD.out ?_)
  refine HAL.out.mono ?_
  rintro e W3 ⟨A, c, rfl, hb⟩
  have HB4 := Lib.hid (HB.out.trans ((HB3.out.trans (hb.mono HB3.out.size)).mono HB.out.size))
  clear hb
  go_wp2_with fail
  go_ret
  exact ⟨rfl, HB4.out⟩

end Go.Proofs.Ythknfbbnnldnmaa
