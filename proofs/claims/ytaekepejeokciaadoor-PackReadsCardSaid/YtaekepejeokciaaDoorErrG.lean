/- errors.as at a place, and errors.As at a number and at a place; for any chain of errors. -/
import Derived.Test.YtaekepejeokciaaDoorErrF
namespace Go.Proofs.YtaekepejeokciaaDoor
open Go.RowKit Go.Extern.Stop Go.Stop Go.Extern

set_option maxRecDepth 100000 in
set_option maxHeartbeats 4000000 in
theorem asa_hit (e a t : Addr) (old : Value) (w : World) (ha : w.cell? a = some (.pointer (some t))) (ht : w.cell? t = some old) (hf : w.frozen? t = false) :
    Calls Tryd.prog 52 #[.iface 38 (.pointer (some e)), .iface 40 (.pointer (some t)), .agg #[.pointer (some ⟨5, 40, none⟩), .pointer (some a), .int .u64 150], .iface 123 (.agg #[.pointer (some ⟨5, 38, none⟩)])] w
      fun ev w' => ev = .returned (.bool true) ∧ ∃ w1, Below w.heap.size w w1 ∧ w' = w1.setCell t (.pointer (some e)) := by
  have h1 := @run_callFunc_extern Tryd.prog 47 _ ReflectliteType.typeOf Tryd.func47 (by kernel_rfl) (by kernel_rfl) (by kernel_rfl) (by kernel_rfl)
  have h2 := @run_callFunc_extern Tryd.prog 143 _ (ReflectliteType.relation "AssignableTo" ReflectliteType.assignableTo) Tryd.func143 (by kernel_rfl) (by kernel_rfl) (by kernel_rfl) (by kernel_rfl)
  have h3 := @run_callFunc_extern Tryd.prog 49 _ (fun args => ReflectliteValue.unpack (args.getD 0 (.tuple #[]))) Tryd.func49 (by kernel_rfl) (by kernel_rfl) (by kernel_rfl) (by kernel_rfl)
  have h4 := @run_callFunc_extern Tryd.prog 85 _ (ReflectliteValue.method (ReflectliteValue.valueError "reflectlite.Value.Elem" 0) ReflectliteValue.elem) Tryd.func85 (by kernel_rfl) (by kernel_rfl) (by kernel_rfl) (by kernel_rfl)
  have h5 := @run_callFunc_extern Tryd.prog 86 _ ReflectliteValue.set Tryd.func86 (by kernel_rfl) (by kernel_rfl) (by kernel_rfl) (by kernel_rfl)
  have f2 := rf_typeOf_E
  have f3 := rf_typeOf_A
  have f4 := rf_massign
  have f5 := rf_as_AA
  have f6 := rf_as_EA
  have f7 := noAs_E
  have f8 := noAs_A
  have f9 := noUnwrap
  have f10 := hasUnwrap
  have f11 := noUnwraps
  have f12 := noUnwraps2
  have f13 := meth_unwrap
  have f14 := rf_val_A
  have hal := lt_of_cell ha
  have htl := lt_of_cell ht
  have hb1 : Below w.heap.size w (w.alloc (.cells #[.pointer (some ⟨5, 40, none⟩), .pointer (some a), .int .u64 150] 87)) := (Below.refl _ _).alloc (Nat.le_refl _) _
  have ha2 := (hb1.cell hal).trans ha
  have ht2 := (hb1.cell htl).trans ht
  have hf2 := (hb1.frozen htl).trans hf
  have HB1 := Lib.hid hb1
  have el := rf_elemv_A a t _ ha2
  have htw := lt_of_cell ht2
  have st := rf_set_A t ⟨w.heap.size + 1, 0, none⟩ e old ((w.alloc (.cells #[.pointer (some ⟨5, 40, none⟩), .pointer (some a), .int .u64 150] 87)).alloc (.cells #[.pointer (some e)] 38)) (by rw [World.cell?_alloc_at _ _ _ _ (by simp)]; rfl) (by rw [World.cell?_alloc_lt _ _ _ htw]; exact ht2) (by rw [World.frozen?_alloc_old _ _ _ (Nat.ne_of_lt htw)]; exact hf2)
  clear hb1 ha ht hf
  go_enter Tryd.func52, Tryd.ntmps52
  go_wp2
  refine wp_loop_rounds 1 ?_
  rw [rounds_succ]
  go_wp2
  go_ret
  exact ⟨rfl, _, HB1.out.alloc HB1.out.size _, rfl⟩

set_option maxRecDepth 100000 in
set_option maxHeartbeats 4000000 in
theorem asa_miss (c : Int) (a t : Addr) (w : World) :
    Calls Tryd.prog 52 #[.iface 29 (.int .i64 c), .iface 40 (.pointer (some t)), .agg #[.pointer (some ⟨5, 40, none⟩), .pointer (some a), .int .u64 150], .iface 123 (.agg #[.pointer (some ⟨5, 38, none⟩)])] w
      fun ev w' => ev = .returned (.bool false) ∧ Below w.heap.size w w' := by
  have h1 := @run_callFunc_extern Tryd.prog 47 _ ReflectliteType.typeOf Tryd.func47 (by kernel_rfl) (by kernel_rfl) (by kernel_rfl) (by kernel_rfl)
  have h2 := @run_callFunc_extern Tryd.prog 143 _ (ReflectliteType.relation "AssignableTo" ReflectliteType.assignableTo) Tryd.func143 (by kernel_rfl) (by kernel_rfl) (by kernel_rfl) (by kernel_rfl)
  have h3 := @run_callFunc_extern Tryd.prog 49 _ (fun args => ReflectliteValue.unpack (args.getD 0 (.tuple #[]))) Tryd.func49 (by kernel_rfl) (by kernel_rfl) (by kernel_rfl) (by kernel_rfl)
  have h4 := @run_callFunc_extern Tryd.prog 85 _ (ReflectliteValue.method (ReflectliteValue.valueError "reflectlite.Value.Elem" 0) ReflectliteValue.elem) Tryd.func85 (by kernel_rfl) (by kernel_rfl) (by kernel_rfl) (by kernel_rfl)
  have h5 := @run_callFunc_extern Tryd.prog 86 _ ReflectliteValue.set Tryd.func86 (by kernel_rfl) (by kernel_rfl) (by kernel_rfl) (by kernel_rfl)
  have f2 := rf_typeOf_E
  have f3 := rf_typeOf_A
  have f4 := rf_massign
  have f5 := rf_as_AA
  have f6 := rf_as_EA
  have f7 := noAs_E
  have f8 := noAs_A
  have f9 := noUnwrap
  have f10 := hasUnwrap
  have f11 := noUnwraps
  have f12 := noUnwraps2
  have f13 := meth_unwrap
  have f14 := rf_val_A
  go_enter Tryd.func52, Tryd.ntmps52
  go_wp2
  refine wp_loop_rounds 1 ?_
  rw [rounds_succ]
  go_wp2
  go_ret
  exact ⟨rfl, (Below.refl _ _).alloc (Nat.le_refl _) _⟩

end Go.Proofs.YtaekepejeokciaaDoor
