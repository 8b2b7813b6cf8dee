/- errors.As at a plain number, and what the statements' own Code tells of one; for any number. -/
import Derived.Test.YtcdfbcpcgkcojaaDoorBase
import Derived.Test.YtcdfbcpcgkcojaaDoorRows
import Derived.RowKitTokens
import Derived.Deep.LoopGhost
import Derived.Stop.Asserts
namespace Go.Proofs.YtcdfbcpcgkcojaaDoor
open Go.RowKit Go.Extern.Stop Go.Stop Go.Extern

theorem rf_valueE (t : Addr) (w : World) : (ReflectliteValue.unpack (.iface 76 (.pointer (some t)))).run Tryd.prog w
    = .ok (.agg #[.pointer (some ⟨4, 76, none⟩), .pointer (some ⟨w.heap.size, 0, none⟩), .int .u64 150]) (w.alloc (.cells #[.pointer (some t)] 76)) := by kernel_rfl
theorem rf_typeE (a : Addr) (w : World) : (ReflectliteValue.methodAny (ReflectliteValue.valueError "reflectlite.Value.Type" 0) (fun t _ _ _ => ReflectliteType.toType t) #[.agg #[.pointer (some ⟨4, 76, none⟩), .pointer (some a), .int .u64 150]]).run Tryd.prog w
    = .ok (.iface 103 (.agg #[.pointer (some ⟨4, 76, none⟩)])) w := by kernel_rfl
theorem rf_mkind (h : Value) (w : World) : (Go.method 246 103 (.agg #[h]) "Kind").run Tryd.prog w = .ok (89, h) w := by kernel_rfl
theorem rf_melem (h : Value) (w : World) : (Go.method 246 103 (.agg #[h]) "Elem").run Tryd.prog w = .ok (99, .agg #[h]) w := by kernel_rfl
theorem rf_mimpl (h : Value) (w : World) : (Go.method 246 103 (.agg #[h]) "Implements").run Tryd.prog w = .ok (100, .agg #[h]) w := by kernel_rfl
theorem rf_massign (h : Value) (w : World) : (Go.method 246 103 (.agg #[h]) "AssignableTo").run Tryd.prog w = .ok (97, .agg #[h]) w := by kernel_rfl
theorem rf_kind_pE (w : World) : ((ReflectliteType.abiMethod fun t => (fun a : Nat => Value.int IntKind.u8 (a : Int)) <$> Rtype.kind t) #[.pointer (some ⟨4, 76, none⟩)]).run Tryd.prog w = .ok (.int .u8 22) w := by kernel_rfl
theorem rf_kind_E (w : World) : ((ReflectliteType.abiMethod fun t => (fun a : Nat => Value.int IntKind.u8 (a : Int)) <$> Rtype.kind t) #[.pointer (some ⟨4, 73, none⟩)]).run Tryd.prog w = .ok (.int .u8 2) w := by kernel_rfl
theorem rf_elem_pE (w : World) : (ReflectliteType.method ReflectliteType.elem #[.agg #[.pointer (some ⟨4, 76, none⟩)]]).run Tryd.prog w = .ok (.iface 103 (.agg #[.pointer (some ⟨4, 73, none⟩)])) w := by kernel_rfl
theorem rf_impl_E (w : World) : (ReflectliteType.relation "Implements" ReflectliteType.implements_ #[.agg #[.pointer (some ⟨4, 73, none⟩)], .iface 103 (.agg #[.pointer (some ⟨4, 42, none⟩)])]).run Tryd.prog w = .ok (.bool true) w := by kernel_rfl
theorem rf_typeOf_E (v : Value) (w : World) : (ReflectliteType.typeOf #[.iface 73 v]).run Tryd.prog w = .ok (.iface 103 (.agg #[.pointer (some ⟨4, 73, none⟩)])) w := by kernel_rfl
theorem rf_as_EE (w : World) : (ReflectliteType.relation "AssignableTo" ReflectliteType.assignableTo #[.agg #[.pointer (some ⟨4, 73, none⟩)], .iface 103 (.agg #[.pointer (some ⟨4, 73, none⟩)])]).run Tryd.prog w = .ok (.bool true) w := by kernel_rfl
theorem rf_val_E (x : Int) (w : World) : (ReflectliteValue.unpack (.iface 73 (.int .i64 x))).run Tryd.prog w
    = .ok (.agg #[.pointer (some ⟨4, 73, none⟩), .pointer (some ⟨w.heap.size, 0, none⟩), .int .u64 130]) (w.alloc (.cells #[.int .i64 x] 73)) := by kernel_rfl
theorem rf_lm (z : Sem Value) (f : TypeId → Addr → Nat → Nat → Sem Value) (v : Value) :
    ReflectliteValue.method z f #[v] = (do match ← ReflectliteValue.parts v with | none => z | some (t, a, fl) => f t a fl (fl % 32)) := rfl
theorem rf_ls (v x : Value) : ReflectliteValue.set #[v, x] = (do
    let (some (dst, a, fl), some (src, b, _)) := (← ReflectliteValue.parts v, ← ReflectliteValue.parts x)
      | unsupported (.noEntry "extern/(internal/reflectlite.Value).Set.zeroValue")
    if fl / ReflectliteValue.flagAddr % 2 == 0 then unsupported (.noEntry "extern/(internal/reflectlite.Value).Set.unaddressable")
    let val ← loadVar src b
    if ← Rtype.directlyAssignable dst src then storeVar dst a val
    else if ← Rtype.implements dst src then
      if (← Rtype.kind src) == 20 then
        match val with
        | .nilIface => unsupported (.noEntry "extern/reflectlite: a nil value of one interface type handed on as a value of another")
        | _ => storeVar dst a val
      else storeVar dst a (.iface src val)
    else panicString ("reflectlite.Set: value of type " ++ (← Rtype.spelt src) ++ " is not assignable to type " ++ (← Rtype.spelt dst))
    pure (.tuple #[])) := rfl
theorem rf_parts_pE (a : Addr) (w : World) : (ReflectliteValue.parts (.agg #[.pointer (some ⟨4, 76, none⟩), .pointer (some a), .int .u64 150])).run Tryd.prog w = .ok (some (76, a, 150)) w := by kernel_rfl
theorem rf_isnil_E (a p : Addr) (W : World) (ha : W.cell? a = some (.pointer (some p))) :
    (ReflectliteValue.method (ReflectliteValue.valueError "reflectlite.Value.IsNil" 0) ReflectliteValue.isNil #[.agg #[.pointer (some ⟨4, 76, none⟩), .pointer (some a), .int .u64 150]]).run Tryd.prog W = .ok (.bool false) W := by
  rw [rf_lm]
  simp only [Sem.run_bind, rf_parts_pE, Result.andThen]
  simp [ReflectliteValue.isNil, loadVar, isAgg, underlying, Tryd.underlying76, ha, Result.andThen]
theorem rf_elemof_E (w : World) : (Rtype.elem? 76).run Tryd.prog w = .ok (some 73) w := by kernel_rfl
theorem rf_mk_E (p : Addr) (w : World) : (ReflectliteValue.mk 73 p ReflectliteValue.flagAddr).run Tryd.prog w = .ok (.agg #[.pointer (some ⟨4, 73, none⟩), .pointer (some p), .int .u64 386]) w := by kernel_rfl
theorem rf_elemv_E (a p : Addr) (W : World) (ha : W.cell? a = some (.pointer (some p))) :
    (ReflectliteValue.method (ReflectliteValue.valueError "reflectlite.Value.Elem" 0) ReflectliteValue.elem #[.agg #[.pointer (some ⟨4, 76, none⟩), .pointer (some a), .int .u64 150]]).run Tryd.prog W
      = .ok (.agg #[.pointer (some ⟨4, 73, none⟩), .pointer (some p), .int .u64 386]) W := by
  rw [rf_lm]
  simp only [Sem.run_bind, rf_parts_pE, Result.andThen]
  simp [ReflectliteValue.elem, loadVar, isAgg, underlying, Tryd.underlying76, ha, Result.andThen, rf_elemof_E, rf_mk_E]
theorem rf_parts_Ea (a : Addr) (w : World) : (ReflectliteValue.parts (.agg #[.pointer (some ⟨4, 73, none⟩), .pointer (some a), .int .u64 386])).run Tryd.prog w = .ok (some (73, a, 386)) w := by kernel_rfl
theorem rf_parts_E (a : Addr) (w : World) : (ReflectliteValue.parts (.agg #[.pointer (some ⟨4, 73, none⟩), .pointer (some a), .int .u64 130])).run Tryd.prog w = .ok (some (73, a, 130)) w := by kernel_rfl
theorem rf_direct_E (w : World) : (Rtype.directlyAssignable 73 73).run Tryd.prog w = .ok true w := by kernel_rfl
theorem rf_set_E (ta b : Addr) (e : Int) (old : Value) (W : World) (hb : W.cell? b = some (.int .i64 e)) (ht : W.cell? ta = some old) (hf : W.frozen? ta = false) :
    (ReflectliteValue.set #[.agg #[.pointer (some ⟨4, 73, none⟩), .pointer (some ta), .int .u64 386], .agg #[.pointer (some ⟨4, 73, none⟩), .pointer (some b), .int .u64 130]]).run Tryd.prog W
      = .ok (.tuple #[]) (W.setCell ta (.int .i64 e)) := by
  rw [rf_ls]
  simp only [Sem.run_bind, rf_parts_Ea, rf_parts_E, Result.andThen]
  simp [ReflectliteValue.flagAddr, loadVar, isAgg, underlying, Tryd.underlying73, hb, Result.andThen, rf_direct_E, storeVar, Value.cells, storeCells, Addr.add]
  rw [run_store Tryd.prog W ta _ _ (by rfl)]
  simp [ht, hf]

set_option maxRecDepth 100000 in
set_option maxHeartbeats 4000000 in
theorem ase_plain (c : Int) (a t : Addr) (old : Value) (w : World) (ha : w.cell? a = some (.pointer (some t))) (ht : w.cell? t = some old) (hf : w.frozen? t = false) :
    Calls Tryd.prog 52 #[.iface 73 (.int .i64 c), .iface 76 (.pointer (some t)), .agg #[.pointer (some ⟨4, 76, none⟩), .pointer (some a), .int .u64 150], .iface 103 (.agg #[.pointer (some ⟨4, 73, none⟩)])] w
      fun e w' => e = .returned (.bool true) ∧ ∃ w1, Below w.heap.size w w1 ∧ w' = w1.setCell t (.int .i64 c) := by
  have h1 := @run_callFunc_extern Tryd.prog 65 _ ReflectliteType.typeOf Tryd.func65 (by kernel_rfl) (by kernel_rfl) (by kernel_rfl) (by kernel_rfl)
  have h2 := @run_callFunc_extern Tryd.prog 97 _ (ReflectliteType.relation "AssignableTo" ReflectliteType.assignableTo) Tryd.func97 (by kernel_rfl) (by kernel_rfl) (by kernel_rfl) (by kernel_rfl)
  have h3 := @run_callFunc_extern Tryd.prog 49 _ (fun args => ReflectliteValue.unpack (args.getD 0 (.tuple #[]))) Tryd.func49 (by kernel_rfl) (by kernel_rfl) (by kernel_rfl) (by kernel_rfl)
  have h4 := @run_callFunc_extern Tryd.prog 66 _ (ReflectliteValue.method (ReflectliteValue.valueError "reflectlite.Value.Elem" 0) ReflectliteValue.elem) Tryd.func66 (by kernel_rfl) (by kernel_rfl) (by kernel_rfl) (by kernel_rfl)
  have h5 := @run_callFunc_extern Tryd.prog 67 _ ReflectliteValue.set Tryd.func67 (by kernel_rfl) (by kernel_rfl) (by kernel_rfl) (by kernel_rfl)
  have f2 := rf_typeOf_E
  have f4 := rf_massign
  have f5 := rf_as_EE
  have f14 := rf_val_E
  have hal := lt_of_cell ha
  have htl := lt_of_cell ht
  have hb1 : Below w.heap.size w (w.alloc (.cells #[.pointer (some ⟨4, 76, none⟩), .pointer (some a), .int .u64 150] 86)) := (Below.refl _ _).alloc (Nat.le_refl _) _
  have ha2 := (hb1.cell hal).trans ha
  have ht2 := (hb1.cell htl).trans ht
  have hf2 := (hb1.frozen htl).trans hf
  have HB1 := Lib.hid hb1
  have el := rf_elemv_E a t _ ha2
  have htw := lt_of_cell ht2
  have st := rf_set_E t ⟨w.heap.size + 1, 0, none⟩ c old ((w.alloc (.cells #[.pointer (some ⟨4, 76, none⟩), .pointer (some a), .int .u64 150] 86)).alloc (.cells #[.int .i64 c] 73)) (by rw [World.cell?_alloc_at _ _ _ _ (by simp)]; rfl) (by rw [World.cell?_alloc_lt _ _ _ htw]; exact ht2) (by rw [World.frozen?_alloc_old _ _ _ (Nat.ne_of_lt htw)]; exact hf2)
  clear hb1 ha ht hf
  go_enter Tryd.func52, Tryd.ntmps52
  go_wp2
  refine wp_loop_rounds 1 ?_
  rw [rounds_succ]
  go_wp2
  go_ret
  exact ⟨rfl, _, HB1.out.alloc HB1.out.size _, rfl⟩

/-- The variable that holds the type of errors. -/
def ErrTy (w : World) : Prop := w.cell? ⟨1, 0, none⟩ = some (.iface 103 (.agg #[.pointer (some ⟨4, 42, none⟩)]))
theorem ErrTy.below {w w' : World} {B : Nat} (h : ErrTy w) (hb : Below B w w') (hB : 1 < B) : ErrTy w' := (hb.cell (p := ⟨1, 0, none⟩) hB).trans h
theorem ErrTy.pos {w : World} (h : ErrTy w) : 1 < w.heap.size := lt_of_cell h

set_option maxRecDepth 100000 in
set_option maxHeartbeats 4000000 in
theorem ae_plain (c : Int) (t : Addr) (old : Value) (w : World) (hg : ErrTy w) (ht : w.cell? t = some old) (hf : w.frozen? t = false) :
    Calls Tryd.prog 34 #[.iface 73 (.int .i64 c), .iface 76 (.pointer (some t))] w fun e w' => e = .returned (.bool true) ∧ ∃ w1, Below w.heap.size w w1 ∧ w' = w1.setCell t (.int .i64 c) := by
  have h1 := @run_callFunc_extern Tryd.prog 49 _ (fun args => ReflectliteValue.unpack (args.getD 0 (.tuple #[]))) Tryd.func49 (by kernel_rfl) (by kernel_rfl) (by kernel_rfl) (by kernel_rfl)
  have h2 := @run_callFunc_extern Tryd.prog 50 _ (ReflectliteValue.methodAny (ReflectliteValue.valueError "reflectlite.Value.Type" 0) (fun t _ _ _ => ReflectliteType.toType t)) Tryd.func50 (by kernel_rfl) (by kernel_rfl) (by kernel_rfl) (by kernel_rfl)
  have h3 := @run_callFunc_extern Tryd.prog 51 _ (ReflectliteValue.method (ReflectliteValue.valueError "reflectlite.Value.IsNil" 0) ReflectliteValue.isNil) Tryd.func51 (by kernel_rfl) (by kernel_rfl) (by kernel_rfl) (by kernel_rfl)
  have h4 := @run_callFunc_extern Tryd.prog 89 _ (ReflectliteType.abiMethod fun t => do pure (.int .u8 (← Rtype.kind t))) Tryd.func89 (by kernel_rfl) (by kernel_rfl) (by kernel_rfl) (by kernel_rfl)
  have h5 := @run_callFunc_extern Tryd.prog 99 _ (ReflectliteType.method ReflectliteType.elem) Tryd.func99 (by kernel_rfl) (by kernel_rfl) (by kernel_rfl) (by kernel_rfl)
  have h6 := @run_callFunc_extern Tryd.prog 100 _ (ReflectliteType.relation "Implements" ReflectliteType.implements_) Tryd.func100 (by kernel_rfl) (by kernel_rfl) (by kernel_rfl) (by kernel_rfl)
  have f1 := rf_valueE
  have f2 := rf_typeE
  have f3 := rf_mkind
  have f4 := rf_melem
  have f5 := rf_mimpl
  have f6 := rf_kind_pE
  have f7 := rf_kind_E
  have f8 := rf_elem_pE
  have f9 := rf_impl_E
  have hb1 : Below w.heap.size w ((w.alloc (.cells #[.pointer (some t)] 76)).alloc (.cells #[.pointer (some ⟨4, 76, none⟩), .pointer (some ⟨w.heap.size, 0, none⟩), .int .u64 150] 86)) := ((Below.refl _ _).alloc (Nat.le_refl _) _).alloc (by simp) _
  have htl := lt_of_cell ht
  have hg2 : ErrTy _ := hg.below hb1 hg.pos
  unfold ErrTy at hg2
  have n8 := rf_isnil_E ⟨w.heap.size, 0, none⟩ t ((w.alloc (.cells #[.pointer (some t)] 76)).alloc (.cells #[.pointer (some ⟨4, 76, none⟩), .pointer (some ⟨w.heap.size, 0, none⟩), .int .u64 150] 86)) (by rw [World.cell?_alloc_lt _ _ _ (by simp)]; simp)
  have HT := Lib.hid ((hb1.cell htl).trans ht)
  have HF := Lib.hid ((hb1.frozen htl).trans hf)
  have HB1 := Lib.hid hb1
  clear hg ht hf hb1
  go_enter Tryd.func34, Tryd.ntmps34
  go_wp2_with fail
  refine (ase_plain c ⟨w.heap.size, 0, none⟩ t old _ (by rw [World.cell?_alloc_lt _ _ _ (by simp)]; simp) HT.out HF.out).mono ?_
  rintro e w2 ⟨rfl, w1, hb2, rfl⟩
  have HB2 := Lib.hid hb2
  clear hb2
  go_wp2_with fail
  go_ret
  exact ⟨rfl, _, HB1.out.trans (HB2.out.mono HB1.out.size), rfl⟩

/-- What the statements' own Code tells of nil. -/
theorem lcode_nil (w : World) :
    Calls Tryd.prog 21 #[.nilIface] w fun e w' => e = .returned (.int .i64 0) ∧ w' = w := by
  go_enter Tryd.func21, Tryd.ntmps21
  go_wp2_with fail
  go_ret
  exact ⟨rfl, rfl⟩

set_option maxRecDepth 100000 in
set_option maxHeartbeats 400000 in
theorem lcode_plain (c : Int) (w : World) (hg : ErrTy w) :
    Calls Tryd.prog 21 #[.iface 73 (.int .i64 c)] w fun e w' => e = .returned (.int .i64 c) ∧ Below w.heap.size w w' := by
  have hb1 : Below w.heap.size w (w.alloc (.cells #[.int .i64 0] 73)) := (Below.refl _ _).alloc (Nat.le_refl _) _
  have HG := Lib.hid (hg.below hb1 hg.pos)
  have HB1 := Lib.hid hb1
  clear hg hb1
  go_enter Tryd.func21, Tryd.ntmps21
  go_wp2_with fail
  refine (ae_plain c ⟨w.heap.size, 0, none⟩ (.int .i64 0) _ HG.out (by simp) (by rw [World.frozen?_alloc_at _ _ _ _ (by simp)])).mono ?_
  rintro e w2 ⟨rfl, w1, hb2, rfl⟩
  have hsz := hb2.size
  simp at hsz
  have hc1 : w1.cell? ⟨w.heap.size, 0, none⟩ = some (.int .i64 0) := (hb2.cell (p := ⟨w.heap.size, 0, none⟩) (by simp)).trans (by simp)
  have hr3 : (w1.setCell ⟨w.heap.size, 0, none⟩ (.int .i64 c)).cell? ⟨w.heap.size, 0, none⟩ = some (.int .i64 c) := World.cell?_setCell_same _ _ _ hc1
  have hb3 : Below w.heap.size w (w1.setCell ⟨w.heap.size, 0, none⟩ (.int .i64 c)) := (HB1.out.trans (hb2.mono HB1.out.size)).setCell (by simp) _
  have HB3 := Lib.hid hb3
  clear hb2 hb3
  go_wp2_with fail
  go_ret
  exact ⟨rfl, HB3.out⟩


end Go.Proofs.YtcdfbcpcgkcojaaDoor
