/- errors.As at a number and at a place; for any chain of errors. -/
import Derived.Test.YtaekepejeokciaaDoorErrG
namespace Go.Proofs.YtaekepejeokciaaDoor
open Go.RowKit Go.Extern.Stop Go.Stop Go.Extern

/-- The variable that holds the type of errors. -/
def ErrTy (w : World) : Prop := w.cell? ⟨0, 0, none⟩ = some (.iface 123 (.agg #[.pointer (some ⟨5, 24, none⟩)]))
theorem ErrTy.below {w w' : World} {B : Nat} (h : ErrTy w) (hb : Below B w w') (hB : 0 < B) : ErrTy w' := (hb.cell (p := ⟨0, 0, none⟩) hB).trans h
theorem ErrTy.pos {w : World} (h : ErrTy w) : 0 < w.heap.size := lt_of_cell h

set_option maxRecDepth 100000 in
set_option maxHeartbeats 4000000 in
theorem ae_any (ps : List Int) (c : Int) (lim : Nat) (v : Value) (t : Addr) (old : Value) (w : World) (h : Ch w ps c lim v) (hg : ErrTy w) (ht : w.cell? t = some old) (hf : w.frozen? t = false) :
    Calls Tryd.prog 17 #[v, .iface 78 (.pointer (some t))] w fun e w' => e = .returned (.bool true) ∧ ∃ w1, Below w.heap.size w w1 ∧ w' = w1.setCell t (.int .i64 c) := by
  have h1 := @run_callFunc_extern Tryd.prog 49 _ (fun args => ReflectliteValue.unpack (args.getD 0 (.tuple #[]))) Tryd.func49 (by kernel_rfl) (by kernel_rfl) (by kernel_rfl) (by kernel_rfl)
  have h2 := @run_callFunc_extern Tryd.prog 50 _ (ReflectliteValue.methodAny (ReflectliteValue.valueError "reflectlite.Value.Type" 0) (fun t _ _ _ => ReflectliteType.toType t)) Tryd.func50 (by kernel_rfl) (by kernel_rfl) (by kernel_rfl) (by kernel_rfl)
  have h3 := @run_callFunc_extern Tryd.prog 51 _ (ReflectliteValue.method (ReflectliteValue.valueError "reflectlite.Value.IsNil" 0) ReflectliteValue.isNil) Tryd.func51 (by kernel_rfl) (by kernel_rfl) (by kernel_rfl) (by kernel_rfl)
  have h4 := @run_callFunc_extern Tryd.prog 136 _ (ReflectliteType.abiMethod fun t => do pure (.int .u8 (← Rtype.kind t))) Tryd.func136 (by kernel_rfl) (by kernel_rfl) (by kernel_rfl) (by kernel_rfl)
  have h5 := @run_callFunc_extern Tryd.prog 145 _ (ReflectliteType.method ReflectliteType.elem) Tryd.func145 (by kernel_rfl) (by kernel_rfl) (by kernel_rfl) (by kernel_rfl)
  have h6 := @run_callFunc_extern Tryd.prog 146 _ (ReflectliteType.relation "Implements" ReflectliteType.implements_) Tryd.func146 (by kernel_rfl) (by kernel_rfl) (by kernel_rfl) (by kernel_rfl)
  have f1 := rf_valueE
  have f2 := rf_typeE
  have f3 := rf_mkind
  have f4 := rf_melem
  have f5 := rf_mimpl
  have f6 := rf_kind_pE
  have f7 := rf_kind_E
  have f8 := rf_elem_pE
  have f9 := rf_impl_E
  obtain ⟨T, x, rfl⟩ := h.iface
  have hb1 : Below w.heap.size w ((w.alloc (.cells #[.pointer (some t)] 78)).alloc (.cells #[.pointer (some ⟨5, 78, none⟩), .pointer (some ⟨w.heap.size, 0, none⟩), .int .u64 150] 87)) := ((Below.refl _ _).alloc (Nat.le_refl _) _).alloc (by simp) _
  have htl := lt_of_cell ht
  have hg2 : ErrTy _ := hg.below hb1 hg.pos
  unfold ErrTy at hg2
  have n8 := rf_isnil_E ⟨w.heap.size, 0, none⟩ t ((w.alloc (.cells #[.pointer (some t)] 78)).alloc (.cells #[.pointer (some ⟨5, 78, none⟩), .pointer (some ⟨w.heap.size, 0, none⟩), .int .u64 150] 87)) (by rw [World.cell?_alloc_lt _ _ _ (by simp)]; simp)
  have HC := Lib.hid (h.below hb1)
  have HT := Lib.hid ((hb1.cell htl).trans ht)
  have HF := Lib.hid ((hb1.frozen htl).trans hf)
  have HB1 := Lib.hid hb1
  clear h hg ht hf hb1
  go_enter Tryd.func17, Tryd.ntmps17
  go_wp2_with fail
  refine (ase_any ps c lim (.iface T x) ⟨w.heap.size, 0, none⟩ t old _ HC.out (by rw [World.cell?_alloc_lt _ _ _ (by simp)]; simp) HT.out HF.out).mono ?_
  rintro e w2 ⟨rfl, w1, hb2, rfl⟩
  have HB2 := Lib.hid hb2
  clear hb2
  go_wp2_with fail
  go_ret
  exact ⟨rfl, _, HB1.out.trans (HB2.out.mono HB1.out.size), rfl⟩

set_option maxRecDepth 100000 in
set_option maxHeartbeats 4000000 in
theorem aa_hit (e t : Addr) (old : Option Addr) (w : World) (hg : ErrTy w) (ht : w.cell? t = some (.pointer old)) (hf : w.frozen? t = false) :
    Calls Tryd.prog 17 #[.iface 38 (.pointer (some e)), .iface 40 (.pointer (some t))] w fun ev w' => ev = .returned (.bool true) ∧ ∃ w1, Below w.heap.size w w1 ∧ w' = w1.setCell t (.pointer (some e)) := by
  have h1 := @run_callFunc_extern Tryd.prog 49 _ (fun args => ReflectliteValue.unpack (args.getD 0 (.tuple #[]))) Tryd.func49 (by kernel_rfl) (by kernel_rfl) (by kernel_rfl) (by kernel_rfl)
  have h2 := @run_callFunc_extern Tryd.prog 50 _ (ReflectliteValue.methodAny (ReflectliteValue.valueError "reflectlite.Value.Type" 0) (fun t _ _ _ => ReflectliteType.toType t)) Tryd.func50 (by kernel_rfl) (by kernel_rfl) (by kernel_rfl) (by kernel_rfl)
  have h3 := @run_callFunc_extern Tryd.prog 51 _ (ReflectliteValue.method (ReflectliteValue.valueError "reflectlite.Value.IsNil" 0) ReflectliteValue.isNil) Tryd.func51 (by kernel_rfl) (by kernel_rfl) (by kernel_rfl) (by kernel_rfl)
  have h4 := @run_callFunc_extern Tryd.prog 136 _ (ReflectliteType.abiMethod fun t => do pure (.int .u8 (← Rtype.kind t))) Tryd.func136 (by kernel_rfl) (by kernel_rfl) (by kernel_rfl) (by kernel_rfl)
  have h5 := @run_callFunc_extern Tryd.prog 145 _ (ReflectliteType.method ReflectliteType.elem) Tryd.func145 (by kernel_rfl) (by kernel_rfl) (by kernel_rfl) (by kernel_rfl)
  have h6 := @run_callFunc_extern Tryd.prog 146 _ (ReflectliteType.relation "Implements" ReflectliteType.implements_) Tryd.func146 (by kernel_rfl) (by kernel_rfl) (by kernel_rfl) (by kernel_rfl)
  have f1 := rf_valueA
  have f2 := rf_typeA
  have f3 := rf_mkind
  have f4 := rf_melem
  have f5 := rf_mimpl
  have f6 := rf_kind_pA
  have f7 := rf_kind_A
  have f8 := rf_elem_pA
  have f9 := rf_impl_A
  have hb1 : Below w.heap.size w ((w.alloc (.cells #[.pointer (some t)] 40)).alloc (.cells #[.pointer (some ⟨5, 40, none⟩), .pointer (some ⟨w.heap.size, 0, none⟩), .int .u64 150] 87)) := ((Below.refl _ _).alloc (Nat.le_refl _) _).alloc (by simp) _
  have htl := lt_of_cell ht
  have hg2 : ErrTy _ := hg.below hb1 hg.pos
  unfold ErrTy at hg2
  have n8 := rf_isnil_A ⟨w.heap.size, 0, none⟩ t ((w.alloc (.cells #[.pointer (some t)] 40)).alloc (.cells #[.pointer (some ⟨5, 40, none⟩), .pointer (some ⟨w.heap.size, 0, none⟩), .int .u64 150] 87)) (by rw [World.cell?_alloc_lt _ _ _ (by simp)]; simp)
  have HT := Lib.hid ((hb1.cell htl).trans ht)
  have HF := Lib.hid ((hb1.frozen htl).trans hf)
  have HB1 := Lib.hid hb1
  clear hg ht hf hb1
  go_enter Tryd.func17, Tryd.ntmps17
  go_wp2_with fail
  refine (asa_hit e ⟨w.heap.size, 0, none⟩ t (.pointer old) _ (by rw [World.cell?_alloc_lt _ _ _ (by simp)]; simp) HT.out HF.out).mono ?_
  rintro e w2 ⟨rfl, w1, hb2, rfl⟩
  have HB2 := Lib.hid hb2
  clear hb2
  go_wp2_with fail
  go_ret
  exact ⟨rfl, _, HB1.out.trans (HB2.out.mono HB1.out.size), rfl⟩

set_option maxRecDepth 100000 in
set_option maxHeartbeats 4000000 in
theorem aa_miss (c : Int) (t : Addr) (old : Option Addr) (w : World) (hg : ErrTy w) (_ht : w.cell? t = some (.pointer old)) :
    Calls Tryd.prog 17 #[.iface 29 (.int .i64 c), .iface 40 (.pointer (some t))] w fun ev w' => ev = .returned (.bool false) ∧ Below w.heap.size w w' := by
  have h1 := @run_callFunc_extern Tryd.prog 49 _ (fun args => ReflectliteValue.unpack (args.getD 0 (.tuple #[]))) Tryd.func49 (by kernel_rfl) (by kernel_rfl) (by kernel_rfl) (by kernel_rfl)
  have h2 := @run_callFunc_extern Tryd.prog 50 _ (ReflectliteValue.methodAny (ReflectliteValue.valueError "reflectlite.Value.Type" 0) (fun t _ _ _ => ReflectliteType.toType t)) Tryd.func50 (by kernel_rfl) (by kernel_rfl) (by kernel_rfl) (by kernel_rfl)
  have h3 := @run_callFunc_extern Tryd.prog 51 _ (ReflectliteValue.method (ReflectliteValue.valueError "reflectlite.Value.IsNil" 0) ReflectliteValue.isNil) Tryd.func51 (by kernel_rfl) (by kernel_rfl) (by kernel_rfl) (by kernel_rfl)
  have h4 := @run_callFunc_extern Tryd.prog 136 _ (ReflectliteType.abiMethod fun t => do pure (.int .u8 (← Rtype.kind t))) Tryd.func136 (by kernel_rfl) (by kernel_rfl) (by kernel_rfl) (by kernel_rfl)
  have h5 := @run_callFunc_extern Tryd.prog 145 _ (ReflectliteType.method ReflectliteType.elem) Tryd.func145 (by kernel_rfl) (by kernel_rfl) (by kernel_rfl) (by kernel_rfl)
  have h6 := @run_callFunc_extern Tryd.prog 146 _ (ReflectliteType.relation "Implements" ReflectliteType.implements_) Tryd.func146 (by kernel_rfl) (by kernel_rfl) (by kernel_rfl) (by kernel_rfl)
  have f1 := rf_valueA
  have f2 := rf_typeA
  have f3 := rf_mkind
  have f4 := rf_melem
  have f5 := rf_mimpl
  have f6 := rf_kind_pA
  have f7 := rf_kind_A
  have f8 := rf_elem_pA
  have f9 := rf_impl_A
  have hb1 : Below w.heap.size w ((w.alloc (.cells #[.pointer (some t)] 40)).alloc (.cells #[.pointer (some ⟨5, 40, none⟩), .pointer (some ⟨w.heap.size, 0, none⟩), .int .u64 150] 87)) := ((Below.refl _ _).alloc (Nat.le_refl _) _).alloc (by simp) _
  have hg2 : ErrTy _ := hg.below hb1 hg.pos
  unfold ErrTy at hg2
  have n8 := rf_isnil_A ⟨w.heap.size, 0, none⟩ t ((w.alloc (.cells #[.pointer (some t)] 40)).alloc (.cells #[.pointer (some ⟨5, 40, none⟩), .pointer (some ⟨w.heap.size, 0, none⟩), .int .u64 150] 87)) (by rw [World.cell?_alloc_lt _ _ _ (by simp)]; simp)
  have HB1 := Lib.hid hb1
  clear hg hb1
  go_enter Tryd.func17, Tryd.ntmps17
  go_wp2_with fail
  refine (asa_miss c ⟨w.heap.size, 0, none⟩ t _).mono ?_
  rintro e w2 ⟨rfl, hb2⟩
  have HB2 := Lib.hid hb2
  clear hb2
  go_wp2_with fail
  go_ret
  exact ⟨rfl, HB1.out.trans (HB2.out.mono HB1.out.size)⟩

end Go.Proofs.YtaekepejeokciaaDoor
