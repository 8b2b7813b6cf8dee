/- errors.as at a number and at a place: the loop over a chain of errors; for any chain. -/
import Derived.Test.YtaekepejeokciaaDoorErrD
import Derived.Deep.LoopGhost
namespace Go.Proofs.YtaekepejeokciaaDoor
open Go.RowKit Go.Extern.Stop Go.Stop Go.Extern

set_option maxRecDepth 100000 in
set_option maxHeartbeats 4000000 in
theorem ase_any (ps : List Int) (c : Int) (lim : Nat) (v : Value) (a t : Addr) (old : Value) (w : World) (h : Ch w ps c lim v) (ha : w.cell? a = some (.pointer (some t))) (ht : w.cell? t = some old) (hf : w.frozen? t = false) :
    Calls Tryd.prog 52 #[v, .iface 78 (.pointer (some t)), .agg #[.pointer (some ⟨5, 78, none⟩), .pointer (some a), .int .u64 150], .iface 123 (.agg #[.pointer (some ⟨5, 29, none⟩)])] w
      fun e w' => e = .returned (.bool true) ∧ ∃ w1, Below w.heap.size w w1 ∧ w' = w1.setCell t (.int .i64 c) := by
  have h1 := @run_callFunc_extern Tryd.prog 47 _ ReflectliteType.typeOf Tryd.func47 (by kernel_rfl) (by kernel_rfl) (by kernel_rfl) (by kernel_rfl)
  have h2 := @run_callFunc_extern Tryd.prog 143 _ (ReflectliteType.relation "AssignableTo" ReflectliteType.assignableTo) Tryd.func143 (by kernel_rfl) (by kernel_rfl) (by kernel_rfl) (by kernel_rfl)
  have h3 := @run_callFunc_extern Tryd.prog 49 _ (fun args => ReflectliteValue.unpack (args.getD 0 (.tuple #[]))) Tryd.func49 (by kernel_rfl) (by kernel_rfl) (by kernel_rfl) (by kernel_rfl)
  have h4 := @run_callFunc_extern Tryd.prog 85 _ (ReflectliteValue.method (ReflectliteValue.valueError "reflectlite.Value.Elem" 0) ReflectliteValue.elem) Tryd.func85 (by kernel_rfl) (by kernel_rfl) (by kernel_rfl) (by kernel_rfl)
  have h5 := @run_callFunc_extern Tryd.prog 86 _ ReflectliteValue.set Tryd.func86 (by kernel_rfl) (by kernel_rfl) (by kernel_rfl) (by kernel_rfl)
  have f2 := rf_typeOf_E
  have f3 := rf_typeOf_A
  have f4 := rf_massign
  have f5 := rf_as_EE
  have f6 := rf_as_AE
  have f7 := noAs_E
  have f8 := noAs_A
  have f9 := noUnwrap
  have f10 := hasUnwrap
  have f11 := noUnwraps
  have f12 := noUnwraps2
  have f13 := meth_unwrap
  have f14 := rf_val_E
  have hb1 : Below w.heap.size w (w.alloc (.cells #[.pointer (some ⟨5, 78, none⟩), .pointer (some a), .int .u64 150] 87)) := (Below.refl _ _).alloc (Nat.le_refl _) _
  have HC := Lib.hid (h.below hb1)
  have hal := lt_of_cell ha
  have htl := lt_of_cell ht
  clear h
  go_enter Tryd.func52, Tryd.ntmps52
  go_wp2_with fail
  go_loopg [0] ps.length (fun k e wr => ∃ ps' lim', Ch wr ps' c lim' e ∧ ps'.length = k ∧ Below (w.heap.size + 1) (w.alloc (.cells #[.pointer (some ⟨5, 78, none⟩), .pointer (some a), .int .u64 150] 87)) wr)
  case atStart => exact ⟨ps, lim, HC.out, rfl, Below.refl _ _⟩
  case round =>
    obtain ⟨ps', lim', hch, hk, hbel⟩ := hrel
    have hwb : Below w.heap.size w wr := hb1.trans (hbel.mono (by omega))
    have ha2 := (hwb.cell hal).trans ha
    have ht2 := (hwb.cell htl).trans ht
    have hf2 := (hwb.frozen htl).trans hf
    have hx0 := (hbel.cell (p := ⟨w.heap.size, 0, none⟩) (by simp)).trans (World.cell?_alloc_new _ _ _ 0)
    have hx1 := (hbel.cell (p := ⟨w.heap.size, 1, none⟩) (by simp)).trans (World.cell?_alloc_new _ _ _ 1)
    have hx2 := (hbel.cell (p := ⟨w.heap.size, 2, none⟩) (by simp)).trans (World.cell?_alloc_new _ _ _ 2)
    simp at hx0 hx1 hx2
    have HBEL := Lib.hid hbel
    have HWB := Lib.hid hwb
    clear hbel hwb ha ht hf
    cases ps' with
    | nil =>
      obtain rfl := hch
      have el := rf_elemv_E a t wr ha2
      have htw : t.block < wr.heap.size := lt_of_cell ht2
      have st := rf_set_E t ⟨wr.heap.size, 0, none⟩ c old (wr.alloc (.cells #[.int .i64 c] 29)) (by simp) (by rw [World.cell?_alloc_lt _ _ _ htw]; exact ht2) (by rw [World.frozen?_alloc_old _ _ _ (Nat.ne_of_lt htw)]; exact hf2)
      clear hk
      go_wp2
      go_ret
      exact ⟨rfl, _, HWB.out.alloc HWB.out.size _, rfl⟩
    | cons p ps2 =>
      obtain ⟨g, v', rfl, hgl, hblk, hrest⟩ := hch
      obtain ⟨T, x, rfl⟩ := hrest.iface
      have HBK := Lib.hid hblk
      have HR := Lib.hid hrest
      have HK := Lib.hid hk
      clear hk hblk hrest
      go_wp2_with fail
      refine (atunwrap g p (.iface T x) _ HBK.out).mono ?_
      rintro e w1 ⟨rfl, rfl⟩
      go_wp2_with fail
      go_roundg ps2.length
      case measure => have := HK.out; simp at this; omega
      case rel => exact ⟨ps2, g, HR.out, rfl, HBEL.out⟩

end Go.Proofs.YtaekepejeokciaaDoor
