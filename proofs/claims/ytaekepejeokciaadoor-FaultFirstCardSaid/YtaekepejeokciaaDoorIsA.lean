/- errors.Is at a number; for any chain of errors. -/
import Derived.Test.YtaekepejeokciaaDoorErrF
namespace Go.Proofs.YtaekepejeokciaaDoor
set_option maxRecDepth 100000
open Go.RowKit Go.Extern.Stop Go.Stop Go.Extern

theorem noIs_E (v : Value) (xT : TypeId) (w : World) : (Instr.typeAssert (.iface 29 v) xT 125 true).run Tryd.prog w = .ok (.tuple #[.nilIface, .bool false]) w :=
  run_typeAssert_lacksB Tryd.underlying125 (by kernel_rfl) (by kernel_rfl) v xT w
theorem noIs_A (v : Value) (xT : TypeId) (w : World) : (Instr.typeAssert (.iface 38 v) xT 125 true).run Tryd.prog w = .ok (.tuple #[.nilIface, .bool false]) w :=
  run_typeAssert_lacksB Tryd.underlying125 (by kernel_rfl) (by kernel_rfl) v xT w
theorem rf_mcomp (h : Value) (w : World) : (Go.method 299 123 (.agg #[h]) "Comparable").run Tryd.prog w = .ok (144, .agg #[h]) w := by kernel_rfl
theorem rf_comp_E (w : World) : (ReflectliteType.method (fun t => do Rtype.noPackHeld "Comparable" t; (fun a : TypeInfo => Value.bool a.comparable) <$> typeInfo t) #[.agg #[.pointer (some ⟨5, 29, none⟩)]]).run Tryd.prog w = .ok (.bool true) w := by kernel_rfl

theorem eql_codes (a b : Int) (w : World) : (binOp .eql 24 (.iface 29 (.int .i64 a)) (.iface 29 (.int .i64 b))).run Tryd.prog w = .ok (.bool (a == b)) w := by kernel_rfl
theorem eql_place (a : Value) (b : Value) (w : World) : (binOp .eql 24 (.iface 38 a) (.iface 29 b)).run Tryd.prog w = .ok (.bool false) w := by
  obtain ⟨ms, hms⟩ := err_if
  exact run_eql_iface_types (P := Tryd.prog) 38 29 a b hms (by decide) w

set_option maxHeartbeats 4000000 in
theorem is_any (ps : List Int) (c d : Int) (lim : Nat) (v : Value) (w : World) (h : Ch w ps c lim v) :
    Calls Tryd.prog 48 #[v, .iface 29 (.int .i64 d), .bool true] w fun e w' => e = .returned (.bool (c == d)) ∧ w' = w := by
  have f7 := noIs_E
  have f8 := noIs_A
  have f9 := noUnwrap
  have f10 := hasUnwrap
  have f11 := noUnwraps
  have f12 := noUnwraps2
  have f13 := meth_unwrap
  have f14 := eql_codes
  have f15 := eql_place
  have HC := Lib.hid h
  clear h
  go_enter Tryd.func48, Tryd.ntmps48
  go_wp2_with fail
  go_loopg [0] ps.length (fun k e wr => ∃ ps' lim', Ch w ps' c lim' e ∧ ps'.length = k ∧ wr = w)
  case atStart => exact ⟨ps, lim, HC.out, rfl, rfl⟩
  case round =>
    obtain ⟨ps', lim', hch, hk, rfl⟩ := hrel
    cases ps' with
    | nil =>
      obtain rfl := hch
      clear hk
      by_cases hcd : c = d
      · have q : (c == d) = true := beq_iff_eq.2 hcd
        go_wp2_with fail
        go_ret
        exact ⟨by rw [q]; rfl, rfl⟩
      · have q : (c == d) = false := beq_eq_false_iff_ne.2 hcd
        go_wp2_with fail
        go_ret
        exact ⟨by rw [q]; rfl, rfl⟩
    | cons p ps2 =>
      obtain ⟨g, v', rfl, hgl, hblk, hrest⟩ := hch
      obtain ⟨T, x, rfl⟩ := hrest.iface
      have HBK := Lib.hid hblk
      have HR := Lib.hid hrest
      have HK := Lib.hid hk
      clear hk hblk hrest
      go_wp2_with fail
      refine (atunwrap g p (.iface T x) _ HBK.out).mono ?_
      rintro e w1 ⟨rfl, rfl⟩
      go_wp2_with fail
      go_roundg ps2.length
      case measure => have := HK.out; simp at this; omega
      case rel => exact ⟨ps2, g, HR.out, rfl, rfl⟩

set_option maxHeartbeats 4000000 in
theorem eis_any (ps : List Int) (c d : Int) (lim : Nat) (v : Value) (w : World) (h : Ch w ps c lim v) :
    Calls Tryd.prog 15 #[v, .iface 29 (.int .i64 d)] w fun e w' => e = .returned (.bool (c == d)) ∧ w' = w := by
  have h1 := @run_callFunc_extern Tryd.prog 47 _ ReflectliteType.typeOf Tryd.func47 (by kernel_rfl) (by kernel_rfl) (by kernel_rfl) (by kernel_rfl)
  have h2 := @run_callFunc_extern Tryd.prog 144 _ (ReflectliteType.method (fun t => do Rtype.noPackHeld "Comparable" t; pure (.bool (← typeInfo t).comparable))) Tryd.func144 (by kernel_rfl) (by kernel_rfl) (by kernel_rfl) (by kernel_rfl)
  have f1 := rf_typeOf_E
  have f2 := rf_mcomp
  have f3 := rf_comp_E
  obtain ⟨T, x, rfl⟩ := h.iface
  have HC := Lib.hid h
  clear h
  go_enter Tryd.func15, Tryd.ntmps15
  go_wp2_with fail
  refine (is_any ps c d lim (.iface T x) _ HC.out).mono ?_
  rintro e w1 ⟨rfl, rfl⟩
  go_wp2_with fail
  go_ret
  exact ⟨rfl, rfl⟩

end Go.Proofs.YtaekepejeokciaaDoor
