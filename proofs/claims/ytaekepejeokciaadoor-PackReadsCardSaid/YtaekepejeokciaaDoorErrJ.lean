/- An error's number, and what is told of an error; for any chain of errors. -/
import Derived.Test.YtaekepejeokciaaDoorErrI
namespace Go.Proofs.YtaekepejeokciaaDoor
open Go.RowKit

set_option maxRecDepth 100000 in
set_option maxHeartbeats 400000 in
theorem code1_any (a b : Addr) (x : Value) (ps : List Int) (c : Int) (lim : Nat) (v : Value) (w : World) (h : Ch w ps c lim v) (hg : ErrTy w) (ha : w.cell? a = some v) (hb : w.cell? b = some x) (hf : w.frozen? b = false) :
    Calls Tryd.prog 43 #[.pointer (some a), .pointer (some b)] w fun e w' => e = .returned (.tuple #[]) ∧ ∃ w1, Below w.heap.size w w1 ∧ w' = w1.setCell b (.int .i64 c) := by
  have hb1 : Below w.heap.size w (w.alloc (.cells #[.int .i64 0] 29)) := (Below.refl _ _).alloc (Nat.le_refl _) _
  have hal := lt_of_cell ha
  have hbl := lt_of_cell hb
  have ha' : (w.alloc (.cells #[.int .i64 0] 29)).cell? a = some v := (hb1.cell hal).trans ha
  have hb' : (w.alloc (.cells #[.int .i64 0] 29)).cell? b = some x := (hb1.cell hbl).trans hb
  have hf' : (w.alloc (.cells #[.int .i64 0] 29)).frozen? b = false := (hb1.frozen hbl).trans hf
  have HG := Lib.hid (hg.below hb1 hg.pos)
  have H := Lib.hid (h.below hb1)
  have HB1 := Lib.hid hb1
  have HB := Lib.hid hb'
  have HF := Lib.hid hf'
  clear hg h hb1 ha hb hf hb' hf'
  go_enter Tryd.func43, Tryd.ntmps43
  go_wp2_with fail
  refine (ae_any ps c lim v ⟨w.heap.size, 0, none⟩ (.int .i64 0) _ H.out HG.out (by simp) (by rw [World.frozen?_alloc_at _ _ _ _ (by simp)])).mono ?_
  rintro e w2 ⟨rfl, w1, hb2, rfl⟩
  have hsz := hb2.size
  simp at hsz
  have hc1 : w1.cell? ⟨w.heap.size, 0, none⟩ = some (.int .i64 0) := (hb2.cell (p := ⟨w.heap.size, 0, none⟩) (by simp)).trans (by simp)
  have hr3 : (w1.setCell ⟨w.heap.size, 0, none⟩ (.int .i64 c)).cell? ⟨w.heap.size, 0, none⟩ = some (.int .i64 c) := World.cell?_setCell_same _ _ _ hc1
  have hb3 : Below w.heap.size w (w1.setCell ⟨w.heap.size, 0, none⟩ (.int .i64 c)) := (HB1.out.trans (hb2.mono HB1.out.size)).setCell (by simp) _
  have h2 : (w1.setCell ⟨w.heap.size, 0, none⟩ (.int .i64 c)).cell? b = some x := (hb3.cell hbl).trans ((HB1.out.cell hbl).symm.trans HB.out)
  have h3 : (w1.setCell ⟨w.heap.size, 0, none⟩ (.int .i64 c)).frozen? b = false := (hb3.frozen hbl).trans ((HB1.out.frozen hbl).symm.trans HF.out)
  have HB3 := Lib.hid hb3
  clear hb2 hb3
  go_wp2_with fail
  go_end0
  exact ⟨rfl, _, HB3.out, rfl⟩

set_option maxRecDepth 100000 in
set_option maxHeartbeats 400000 in
theorem code_any (ps : List Int) (c : Int) (lim : Nat) (v : Value) (w : World) (h : Ch w ps c lim v) (hn : ps.length ≤ 1000) (hg : ErrTy w) :
    Calls Tryd.prog 10 #[v] w fun e w' => e = .returned (.int .i64 c) ∧ Below w.heap.size w w' := by
  obtain ⟨T, x, rfl⟩ := h.iface
  have hb2 : Below w.heap.size w ((w.alloc (.cells #[.iface T x] 24)).alloc (.cells #[.int .i64 0] 29)) := ((Below.refl _ _).alloc (Nat.le_refl _) _).alloc (by simp) _
  have ha2 : ((w.alloc (.cells #[.iface T x] 24)).alloc (.cells #[.int .i64 0] 29)).cell? ⟨w.heap.size, 0, none⟩ = some (.iface T x) := by rw [World.cell?_alloc_lt _ _ _ (by simp)]; simp
  have hc2 : ((w.alloc (.cells #[.iface T x] 24)).alloc (.cells #[.int .i64 0] 29)).cell? ⟨w.heap.size + 1, 0, none⟩ = some (.int .i64 0) := by rw [World.cell?_alloc_at _ _ _ _ (by simp)]; rfl
  have hf2 : ((w.alloc (.cells #[.iface T x] 24)).alloc (.cells #[.int .i64 0] 29)).frozen? ⟨w.heap.size + 1, 0, none⟩ = false := by rw [World.frozen?_alloc_at _ _ _ _ (by simp)]
  have HG := Lib.hid (hg.below hb2 hg.pos)
  have H := Lib.hid (h.below hb2)
  have HB2 := Lib.hid hb2
  have HA := Lib.hid ha2
  have HC := Lib.hid hc2
  have HF := Lib.hid hf2
  have hmf := mkfunc
  clear h hb2 ha2 hc2 hf2 hg
  go_enter Tryd.func10, Tryd.ntmps10
  go_wp2_with fail
  refine (search_code ⟨w.heap.size, 0, none⟩ ⟨w.heap.size + 1, 0, none⟩ ps c lim (.iface T x) _ H.out hn (fun w1 w' => w1.cell? ⟨w.heap.size + 1, 0, none⟩ = some (.int .i64 0) ∧ ∃ w2, Below w1.heap.size w1 w2 ∧ w' = w2.setCell ⟨w.heap.size + 1, 0, none⟩ (.int .i64 c)) ?_).mono ?_
  · intro w1 hb1
    have hl : w.heap.size + 1 < ((w.alloc (.cells #[.iface T x] 24)).alloc (.cells #[.int .i64 0] 29)).heap.size := by simp
    have hc := (hb1.cell (p := ⟨w.heap.size + 1, 0, none⟩) hl).trans HC.out
    refine (code1_any _ _ _ ps c lim (.iface T x) w1 (H.out.below hb1) (HG.out.below hb1 (by simp)) ((hb1.cell (p := ⟨w.heap.size, 0, none⟩) (Nat.lt_of_succ_lt hl)).trans HA.out) hc ((hb1.frozen (p := ⟨w.heap.size + 1, 0, none⟩) hl).trans HF.out)).mono ?_
    rintro e w' ⟨he, hr⟩
    exact ⟨he, hc, hr⟩
  rintro e w3 ⟨rfl, w1, hb1, hc1, w2, hb, rfl⟩
  have hsz := hb1.size
  simp at hsz
  have hbw1 : Below w.heap.size w w1 := HB2.out.trans (hb1.mono (by simp; omega))
  have hc3 := (hb.cell (p := ⟨w.heap.size + 1, 0, none⟩) (by show w.heap.size + 1 < _; omega)).trans hc1
  have hk := World.cell?_setCell_same w2 ⟨w.heap.size + 1, 0, none⟩ (.int .i64 c) hc3
  have hk2 : Below w.heap.size w (w2.setCell ⟨w.heap.size + 1, 0, none⟩ (.int .i64 c)) := (hbw1.trans (hb.mono (by omega))).setCell (by simp) _
  have HK := Lib.hid hk2
  clear hbw1 hc1 hb1 hb hk2 hc3
  go_wp2_with fail
  go_ret
  exact ⟨rfl, HK.out⟩

set_option maxRecDepth 100000 in
set_option maxHeartbeats 400000 in
/-- What the statements' own Code tells of nil. -/
theorem lcode_nil (w : World) :
    Calls Tryd.prog 18 #[.nilIface] w fun e w' => e = .returned (.int .i64 0) ∧ w' = w := by
  go_enter Tryd.func18, Tryd.ntmps18
  go_wp2_with fail
  go_ret
  exact ⟨rfl, rfl⟩

set_option maxRecDepth 100000 in
set_option maxHeartbeats 400000 in
theorem lcode_any (ps : List Int) (c : Int) (lim : Nat) (v : Value) (w : World) (h : Ch w ps c lim v) (hg : ErrTy w) :
    Calls Tryd.prog 18 #[v] w fun e w' => e = .returned (.int .i64 c) ∧ Below w.heap.size w w' := by
  obtain ⟨T, x, rfl⟩ := h.iface
  have hb1 : Below w.heap.size w (w.alloc (.cells #[.int .i64 0] 29)) := (Below.refl _ _).alloc (Nat.le_refl _) _
  have HG := Lib.hid (hg.below hb1 hg.pos)
  have H := Lib.hid (h.below hb1)
  have HB1 := Lib.hid hb1
  clear hg h hb1
  go_enter Tryd.func18, Tryd.ntmps18
  go_wp2_with fail
  refine (ae_any ps c lim (.iface T x) ⟨w.heap.size, 0, none⟩ (.int .i64 0) _ H.out HG.out (by simp) (by rw [World.frozen?_alloc_at _ _ _ _ (by simp)])).mono ?_
  rintro e w2 ⟨rfl, w1, hb2, rfl⟩
  have hsz := hb2.size
  simp at hsz
  have hc1 : w1.cell? ⟨w.heap.size, 0, none⟩ = some (.int .i64 0) := (hb2.cell (p := ⟨w.heap.size, 0, none⟩) (by simp)).trans (by simp)
  have hr3 : (w1.setCell ⟨w.heap.size, 0, none⟩ (.int .i64 c)).cell? ⟨w.heap.size, 0, none⟩ = some (.int .i64 c) := World.cell?_setCell_same _ _ _ hc1
  have hb3 : Below w.heap.size w (w1.setCell ⟨w.heap.size, 0, none⟩ (.int .i64 c)) := (HB1.out.trans (hb2.mono HB1.out.size)).setCell (by simp) _
  have HB3 := Lib.hid hb3
  clear hb2 hb3
  go_wp2_with fail
  go_ret
  exact ⟨rfl, HB3.out⟩

set_option maxRecDepth 100000 in
set_option maxHeartbeats 400000 in
theorem told_nil (p : Int) (w : World) :
    Calls Tryd.prog 29 #[.nilIface, .int .i64 0, .int .i64 p] w fun e w' => e = .returned (.bool true) ∧ w' = w := by
  go_enter Tryd.func29, Tryd.ntmps29
  go_wp2_with fail
  go_ret
  exact ⟨rfl, rfl⟩

set_option maxRecDepth 100000 in
set_option maxHeartbeats 400000 in
theorem told_any (ps : List Int) (c p : Int) (lim : Nat) (v : Value) (w : World) (h : Ch w ps c lim v) (hn : ps.length ≤ 1000) (hg : ErrTy w) (hc : c ≠ 0) (hp : plc ps = p) :
    Calls Tryd.prog 29 #[v, .int .i64 c, .int .i64 p] w fun e w' => e = .returned (.bool true) ∧ Below w.heap.size w w' := by
  obtain ⟨T, x, rfl⟩ := h.iface
  have HG := Lib.hid hg
  have H := Lib.hid h
  clear hg h
  go_enter Tryd.func29, Tryd.ntmps29
  go_wp2_with fail
  refine (lcode_any ps c lim (.iface T x) _ H.out HG.out).mono ?_
  rintro e w1 ⟨rfl, hb1⟩
  have HB1 := Lib.hid hb1
  clear hb1
  go_wp2_with fail
  refine (place_any ps c lim (.iface T x) _ (H.out.below HB1.out) hn (HG.out.below HB1.out HG.out.pos)).mono ?_
  rintro e w2 ⟨rfl, hb2⟩
  have HB2 := Lib.hid hb2
  clear hb2
  subst hp
  go_wp2_with fail
  go_ret
  exact ⟨rfl, HB1.out.trans (HB2.out.mono HB1.out.size)⟩

end Go.Proofs.YtaekepejeokciaaDoor
