/- The outermost place of an error, and its number; for any chain of errors. -/
import Derived.Test.YtaekepejeokciaaDoorErrH
namespace Go.Proofs.YtaekepejeokciaaDoor
open Go.RowKit

set_option maxRecDepth 100000 in
set_option maxHeartbeats 400000 in
theorem outer_code (c : Int) (w : World) (hg : ErrTy w) :
    Calls Tryd.prog 45 #[.iface 29 (.int .i64 c)] w fun e w' => e = .returned (.pointer none) ∧ Below w.heap.size w w' := by
  have hb1 : Below w.heap.size w (w.alloc (.cells #[.pointer none] 38)) := (Below.refl _ _).alloc (Nat.le_refl _) _
  have HG := Lib.hid (hg.below hb1 hg.pos)
  have HB := Lib.hid hb1
  clear hg hb1
  go_enter Tryd.func45, Tryd.ntmps45
  go_wp2_with fail
  refine (aa_miss c ⟨w.heap.size, 0, none⟩ none _ HG.out (by simp)).mono ?_
  rintro e w2 ⟨rfl, hb2⟩
  have HB2 := Lib.hid hb2
  clear hb2
  go_wp2_with fail
  go_ret
  exact ⟨rfl, HB.out.trans (HB2.out.mono HB.out.size)⟩

set_option maxRecDepth 100000 in
set_option maxHeartbeats 400000 in
theorem outer_at (h : Addr) (w : World) (hg : ErrTy w) :
    Calls Tryd.prog 45 #[.iface 38 (.pointer (some h))] w fun e w' => e = .returned (.pointer (some h)) ∧ Below w.heap.size w w' := by
  have hb1 : Below w.heap.size w (w.alloc (.cells #[.pointer none] 38)) := (Below.refl _ _).alloc (Nat.le_refl _) _
  have HG := Lib.hid (hg.below hb1 hg.pos)
  have HB := Lib.hid hb1
  clear hg hb1
  go_enter Tryd.func45, Tryd.ntmps45
  go_wp2_with fail
  refine (aa_hit h ⟨w.heap.size, 0, none⟩ none _ HG.out (by simp) (by rw [World.frozen?_alloc_at _ _ _ _ (by simp)])).mono ?_
  rintro e w2 ⟨rfl, w1, hb2, rfl⟩
  have hsz := hb2.size
  simp at hsz
  have hc1 : w1.cell? ⟨w.heap.size, 0, none⟩ = some (.pointer none) := (hb2.cell (p := ⟨w.heap.size, 0, none⟩) (by simp)).trans (by simp)
  have hr3 : (w1.setCell ⟨w.heap.size, 0, none⟩ (.pointer (some h))).cell? ⟨w.heap.size, 0, none⟩ = some (.pointer (some h)) := World.cell?_setCell_same _ _ _ hc1
  have hb3 : Below w.heap.size w (w1.setCell ⟨w.heap.size, 0, none⟩ (.pointer (some h))) := (HB.out.trans (hb2.mono HB.out.size)).setCell (by simp) _
  have HB2 := Lib.hid hb3
  clear hb2 hb3
  go_wp2_with fail
  go_ret
  exact ⟨rfl, HB2.out⟩

/-- The outermost place; -1, if there is none. -/
def plc : List Int → Int
  | [] => -1
  | p :: _ => p

def PlacedR (w : World) (b : Addr) (ps : List Int) (w' : World) : Prop :=
  match ps with
  | [] => Below w.heap.size w w'
  | p :: _ => ∃ w1, Below w.heap.size w w1 ∧ w' = w1.setCell b (.int .i64 p)

set_option maxRecDepth 100000 in
set_option maxHeartbeats 400000 in
theorem place1_any (a b : Addr) (x : Value) (ps : List Int) (c : Int) (lim : Nat) (v : Value) (w : World) (h : Ch w ps c lim v) (hg : ErrTy w) (ha : w.cell? a = some v) (hb : w.cell? b = some x) (hf : w.frozen? b = false) :
    Calls Tryd.prog 46 #[.pointer (some a), .pointer (some b)] w fun e w' => e = .returned (.tuple #[]) ∧ PlacedR w b ps w' := by
  cases ps with
  | nil =>
    have h' : v = .iface 29 (.int .i64 c) := h
    subst h'
    have HG := Lib.hid hg
    have HB := Lib.hid hb
    have HF := Lib.hid hf
    clear hg hb hf h
    go_enter Tryd.func46, Tryd.ntmps46
    go_wp2_with fail
    refine (outer_code c _ HG.out).mono ?_
    rintro e w2 ⟨rfl, hb2⟩
    have HB2 := Lib.hid hb2
    clear hb2
    go_wp2_with fail
    go_end0
    exact ⟨rfl, HB2.out⟩
  | cons p ps =>
    obtain ⟨h0, v', rfl, _, hc, _⟩ := h
    have hcp : w.cell? ⟨h0, 0, none⟩ = some (.int .i64 p) := by rw [cell_of_row w h0 0 _ _ _ hc]; rfl
    have HG := Lib.hid hg
    have HB := Lib.hid hb
    have HF := Lib.hid hf
    have HP := Lib.hid hcp
    clear hg hb hf hc hcp
    go_enter Tryd.func46, Tryd.ntmps46
    go_wp2_with fail
    refine (outer_at ⟨h0, 0, none⟩ _ HG.out).mono ?_
    rintro e w2 ⟨rfl, hb2⟩
    have h1 := (hb2.cell (lt_of_cell HP.out)).trans HP.out
    have h2 := (hb2.cell (lt_of_cell HB.out)).trans HB.out
    have h3 := (hb2.frozen (lt_of_cell HB.out)).trans HF.out
    have HB2 := Lib.hid hb2
    clear hb2
    go_wp2_with fail
    go_end0
    exact ⟨rfl, w2, HB2.out, rfl⟩

set_option maxRecDepth 100000 in
set_option maxHeartbeats 400000 in
theorem place_any (ps : List Int) (c : Int) (lim : Nat) (v : Value) (w : World) (h : Ch w ps c lim v) (hn : ps.length ≤ 1000) (hg : ErrTy w) :
    Calls Tryd.prog 13 #[v] w fun e w' => e = .returned (.int .i64 (plc ps)) ∧ Below w.heap.size w w' := by
  obtain ⟨T, x, rfl⟩ := h.iface
  have hb2 : Below w.heap.size w ((w.alloc (.cells #[.iface T x] 24)).alloc (.cells #[.int .i64 (-1)] 3)) := ((Below.refl _ _).alloc (Nat.le_refl _) _).alloc (by simp) _
  have ha2 : ((w.alloc (.cells #[.iface T x] 24)).alloc (.cells #[.int .i64 (-1)] 3)).cell? ⟨w.heap.size, 0, none⟩ = some (.iface T x) := by rw [World.cell?_alloc_lt _ _ _ (by simp)]; simp
  have hc2 : ((w.alloc (.cells #[.iface T x] 24)).alloc (.cells #[.int .i64 (-1)] 3)).cell? ⟨w.heap.size + 1, 0, none⟩ = some (.int .i64 (-1)) := by rw [World.cell?_alloc_at _ _ _ _ (by simp)]; rfl
  have hf2 : ((w.alloc (.cells #[.iface T x] 24)).alloc (.cells #[.int .i64 (-1)] 3)).frozen? ⟨w.heap.size + 1, 0, none⟩ = false := by rw [World.frozen?_alloc_at _ _ _ _ (by simp)]
  have HG := Lib.hid (hg.below hb2 hg.pos)
  have H := Lib.hid (h.below hb2)
  have HB2 := Lib.hid hb2
  have HA := Lib.hid ha2
  have HC := Lib.hid hc2
  have HF := Lib.hid hf2
  have hmf := mkfunc
  clear h hb2 ha2 hc2 hf2 hg
  go_enter Tryd.func13, Tryd.ntmps13
  go_wp2_with fail
  refine (search_place ⟨w.heap.size, 0, none⟩ ⟨w.heap.size + 1, 0, none⟩ ps c lim (.iface T x) _ H.out hn (fun w1 w' => w1.cell? ⟨w.heap.size + 1, 0, none⟩ = some (.int .i64 (-1)) ∧ PlacedR w1 ⟨w.heap.size + 1, 0, none⟩ ps w') ?_).mono ?_
  · intro w1 hb1
    have hl : w.heap.size + 1 < ((w.alloc (.cells #[.iface T x] 24)).alloc (.cells #[.int .i64 (-1)] 3)).heap.size := by simp
    have hc := (hb1.cell (p := ⟨w.heap.size + 1, 0, none⟩) hl).trans HC.out
    refine (place1_any _ _ _ ps c lim (.iface T x) w1 (H.out.below hb1) (HG.out.below hb1 (by simp)) ((hb1.cell (p := ⟨w.heap.size, 0, none⟩) (Nat.lt_of_succ_lt hl)).trans HA.out) hc ((hb1.frozen (p := ⟨w.heap.size + 1, 0, none⟩) hl).trans HF.out)).mono ?_
    rintro e w' ⟨he, hr⟩
    exact ⟨he, hc, hr⟩
  rintro e w3 ⟨rfl, w1, hb1, hc1, hr⟩
  have hsz := hb1.size
  simp at hsz
  have hbw1 : Below w.heap.size w w1 := HB2.out.trans (hb1.mono (by simp; omega))
  have key : w3.cell? ⟨w.heap.size + 1, 0, none⟩ = some (.int .i64 (plc ps)) ∧ Below w.heap.size w w3 := by
    cases ps with
    | nil =>
      have hr' : Below w1.heap.size w1 w3 := hr
      exact ⟨(hr'.cell (p := ⟨w.heap.size + 1, 0, none⟩) (by show w.heap.size + 1 < _; omega)).trans hc1, hbw1.trans (hr'.mono (by omega))⟩
    | cons p ps =>
      obtain ⟨w2, hb, rfl⟩ := hr
      have hc3 := (hb.cell (p := ⟨w.heap.size + 1, 0, none⟩) (by show w.heap.size + 1 < _; omega)).trans hc1
      exact ⟨World.cell?_setCell_same _ _ _ hc3, (hbw1.trans (hb.mono (by omega))).setCell (by simp) _⟩
  have hk := key.1
  have HK := Lib.hid key.2
  clear key hr hbw1 hc1 hb1
  go_wp2_with fail
  go_ret
  exact ⟨rfl, HK.out⟩

end Go.Proofs.YtaekepejeokciaaDoor
