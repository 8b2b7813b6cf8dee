/- Looking into an error that has an end: what looks is called once, quietly; for chains of up to 1000 places. -/
import Derived.Test.YtaekepejeokciaaDoorErrB
namespace Go.Proofs.YtaekepejeokciaaDoor
open Go.RowKit

set_option maxRecDepth 100000 in
set_option maxHeartbeats 400000 in
theorem quiet_s (a b : Addr) (w : World) (R : World → Prop) (hc : Calls Tryd.prog 83 #[.pointer (some a), .pointer (some b)] w fun e w' => e = .returned (.tuple #[]) ∧ R w') :
    Calls Tryd.prog 82 #[.func (.func 83) #[] #[.pointer (some a), .pointer (some b)]] w fun e w' => e = .returned (.tuple #[]) ∧ R w' := by
  have HC := Lib.hid hc
  clear hc
  go_enter_defers Tryd.func82, Tryd.ntmps82
  go_wp2_with fail
  refine (HC.out).mono ?_
  rintro e w1 ⟨rfl, hr⟩
  have HR := Lib.hid hr
  clear hr
  go_wp2_with fail
  refine leaves_cons (f := 96) (args := #[]) (by simp) (by simp [go_sem]) ?_
  refine (quiet_idle _).mono ?_
  rintro e u' w'' ⟨rfl, rfl, rfl⟩
  exact ⟨_, results_none rfl _ _ _, rfl, HR.out⟩

set_option maxRecDepth 100000 in
set_option maxHeartbeats 400000 in
theorem quiet_code (a b : Addr) (w : World) (R : World → Prop) (hc : Calls Tryd.prog 43 #[.pointer (some a), .pointer (some b)] w fun e w' => e = .returned (.tuple #[]) ∧ R w') :
    Calls Tryd.prog 82 #[.func (.func 43) #[] #[.pointer (some a), .pointer (some b)]] w fun e w' => e = .returned (.tuple #[]) ∧ R w' := by
  have HC := Lib.hid hc
  clear hc
  go_enter_defers Tryd.func82, Tryd.ntmps82
  go_wp2_with fail
  refine (HC.out).mono ?_
  rintro e w1 ⟨rfl, hr⟩
  have HR := Lib.hid hr
  clear hr
  go_wp2_with fail
  refine leaves_cons (f := 96) (args := #[]) (by simp) (by simp [go_sem]) ?_
  refine (quiet_idle _).mono ?_
  rintro e u' w'' ⟨rfl, rfl, rfl⟩
  exact ⟨_, results_none rfl _ _ _, rfl, HR.out⟩

set_option maxRecDepth 100000 in
set_option maxHeartbeats 400000 in
theorem quiet_place (a b : Addr) (w : World) (R : World → Prop) (hc : Calls Tryd.prog 46 #[.pointer (some a), .pointer (some b)] w fun e w' => e = .returned (.tuple #[]) ∧ R w') :
    Calls Tryd.prog 82 #[.func (.func 46) #[] #[.pointer (some a), .pointer (some b)]] w fun e w' => e = .returned (.tuple #[]) ∧ R w' := by
  have HC := Lib.hid hc
  clear hc
  go_enter_defers Tryd.func82, Tryd.ntmps82
  go_wp2_with fail
  refine (HC.out).mono ?_
  rintro e w1 ⟨rfl, hr⟩
  have HR := Lib.hid hr
  clear hr
  go_wp2_with fail
  refine leaves_cons (f := 96) (args := #[]) (by simp) (by simp [go_sem]) ?_
  refine (quiet_idle _).mono ?_
  rintro e u' w'' ⟨rfl, rfl, rfl⟩
  exact ⟨_, results_none rfl _ _ _, rfl, HR.out⟩

set_option maxRecDepth 100000 in
set_option maxHeartbeats 400000 in
theorem quiet_places (a b : Addr) (w : World) (R : World → Prop) (hc : Calls Tryd.prog 44 #[.pointer (some a), .pointer (some b)] w fun e w' => e = .returned (.tuple #[]) ∧ R w') :
    Calls Tryd.prog 82 #[.func (.func 44) #[] #[.pointer (some a), .pointer (some b)]] w fun e w' => e = .returned (.tuple #[]) ∧ R w' := by
  have HC := Lib.hid hc
  clear hc
  go_enter_defers Tryd.func82, Tryd.ntmps82
  go_wp2_with fail
  refine (HC.out).mono ?_
  rintro e w1 ⟨rfl, hr⟩
  have HR := Lib.hid hr
  clear hr
  go_wp2_with fail
  refine leaves_cons (f := 96) (args := #[]) (by simp) (by simp [go_sem]) ?_
  refine (quiet_idle _).mono ?_
  rintro e u' w'' ⟨rfl, rfl, rfl⟩
  exact ⟨_, results_none rfl _ _ _, rfl, HR.out⟩

set_option maxHeartbeats 400000 in
theorem look_ring (a b : Addr) (x : Value) (ps : List Int) (c : Int) (lim : Nat) (v : Value) (w : World) (h : Ch w ps c lim v) (hn : ps.length ≤ 1000) (ha : w.cell? a = some v) (hb : w.cell? b = some x) (hf : w.frozen? b = false) :
    Calls Tryd.prog 83 #[.pointer (some a), .pointer (some b)] w fun e w' => e = .returned (.tuple #[]) ∧ ∃ w1, Below w.heap.size w w1 ∧ w' = w1.setCell b (.bool false) := by
  have H := Lib.hid h
  clear h
  go_enter Tryd.func83, Tryd.ntmps83
  go_wp2_with fail
  refine (endless_any ps c lim v _ H.out hn).mono ?_
  rintro e w1 ⟨rfl, hbel⟩
  have hb1 := (hbel.cell (p := b) (lt_of_cell hb)).trans hb
  have hf1 := (hbel.frozen (p := b) (lt_of_cell hb)).trans hf
  have HB := Lib.hid hbel
  clear hbel
  go_wp2_with fail
  go_end0
  exact ⟨rfl, w1, HB.out, rfl⟩

theorem Ch.iface {w : World} {ps : List Int} {c : Int} {lim : Nat} {v : Value} (h : Ch w ps c lim v) : ∃ T x, v = .iface T x := by
  cases ps with
  | nil => exact ⟨_, _, h⟩
  | cons p ps => obtain ⟨b, v', e, _⟩ := h; exact ⟨_, _, e⟩

set_option maxRecDepth 100000 in
set_option maxHeartbeats 400000 in
theorem search_code (a b : Addr) (ps : List Int) (c : Int) (lim : Nat) (v : Value) (w : World) (h : Ch w ps c lim v) (hn : ps.length ≤ 1000) (R : World → World → Prop)
    (hc : ∀ w1, Below w.heap.size w w1 → Calls Tryd.prog 43 #[.pointer (some a), .pointer (some b)] w1 fun e w' => e = .returned (.tuple #[]) ∧ R w1 w') :
    Calls Tryd.prog 42 #[v, .func (.func 43) #[] #[.pointer (some a), .pointer (some b)]] w fun e w' => e = .returned (.tuple #[]) ∧ ∃ w1, Below w.heap.size w w1 ∧ R w1 w' := by
  obtain ⟨T, x, rfl⟩ := h.iface
  have hb2 : Below w.heap.size w ((w.alloc (.cells #[.iface T x] 24)).alloc (.cells #[.bool false] 4)) := ((Below.refl _ _).alloc (Nat.le_refl _) _).alloc (by simp) _
  have HC := Lib.hid hc
  have H := Lib.hid (h.below hb2)
  have HB2 := Lib.hid hb2
  have hmf := mkfunc
  clear hc h hb2
  go_enter Tryd.func42, Tryd.ntmps42
  go_wp2_with fail
  refine (quiet_s ⟨w.heap.size, 0, none⟩ ⟨w.heap.size + 1, 0, none⟩ _ (fun w' => ∃ w1, Below (w.heap.size + 2) ((w.alloc (.cells #[.iface T x] 24)).alloc (.cells #[.bool false] 4)) w1 ∧ w' = w1.setCell ⟨w.heap.size + 1, 0, none⟩ (.bool false)) ?_).mono ?_
  · refine (look_ring _ _ (.bool false) ps c lim (.iface T x) _ H.out hn ?_ ?_ ?_).mono ?_
    · rw [World.cell?_alloc_lt _ _ _ (by simp)]; simp
    · rw [World.cell?_alloc_at _ _ _ _ (by simp)]; rfl
    · rw [World.frozen?_alloc_at _ _ _ _ (by simp)]
    · rintro e w' ⟨he, w1, hb, hw⟩
      exact ⟨he, w1, hb.mono (by simp), hw⟩
  rintro e w3 ⟨rfl, w1, hb3, rfl⟩
  have hsz := hb3.size
  simp at hsz
  have hc1 : w1.cell? ⟨w.heap.size + 1, 0, none⟩ = some (.bool false) := (hb3.cell (p := ⟨w.heap.size + 1, 0, none⟩) (by simp)).trans (by rw [World.cell?_alloc_at _ _ _ _ (by simp)]; rfl)
  have hr3 : (w1.setCell ⟨w.heap.size + 1, 0, none⟩ (.bool false)).cell? ⟨w.heap.size + 1, 0, none⟩ = some (.bool false) := World.cell?_setCell_same _ _ _ hc1
  have hb4 : Below w.heap.size w (w1.setCell ⟨w.heap.size + 1, 0, none⟩ (.bool false)) := (HB2.out.trans (hb3.mono (by omega))).setCell (by simp) _
  have HB4 := Lib.hid hb4
  clear hb3 hb4
  go_wp2_with fail
  refine (quiet_code a b _ (R (w1.setCell ⟨w.heap.size + 1, 0, none⟩ (.bool false))) (HC.out _ HB4.out)).mono ?_
  rintro e w5 ⟨rfl, hr⟩
  have HR := Lib.hid hr
  clear hr
  go_wp2_with fail
  go_end0
  exact ⟨rfl, _, HB4.out, HR.out⟩

set_option maxRecDepth 100000 in
set_option maxHeartbeats 400000 in
theorem search_place (a b : Addr) (ps : List Int) (c : Int) (lim : Nat) (v : Value) (w : World) (h : Ch w ps c lim v) (hn : ps.length ≤ 1000) (R : World → World → Prop)
    (hc : ∀ w1, Below w.heap.size w w1 → Calls Tryd.prog 46 #[.pointer (some a), .pointer (some b)] w1 fun e w' => e = .returned (.tuple #[]) ∧ R w1 w') :
    Calls Tryd.prog 42 #[v, .func (.func 46) #[] #[.pointer (some a), .pointer (some b)]] w fun e w' => e = .returned (.tuple #[]) ∧ ∃ w1, Below w.heap.size w w1 ∧ R w1 w' := by
  obtain ⟨T, x, rfl⟩ := h.iface
  have hb2 : Below w.heap.size w ((w.alloc (.cells #[.iface T x] 24)).alloc (.cells #[.bool false] 4)) := ((Below.refl _ _).alloc (Nat.le_refl _) _).alloc (by simp) _
  have HC := Lib.hid hc
  have H := Lib.hid (h.below hb2)
  have HB2 := Lib.hid hb2
  have hmf := mkfunc
  clear hc h hb2
  go_enter Tryd.func42, Tryd.ntmps42
  go_wp2_with fail
  refine (quiet_s ⟨w.heap.size, 0, none⟩ ⟨w.heap.size + 1, 0, none⟩ _ (fun w' => ∃ w1, Below (w.heap.size + 2) ((w.alloc (.cells #[.iface T x] 24)).alloc (.cells #[.bool false] 4)) w1 ∧ w' = w1.setCell ⟨w.heap.size + 1, 0, none⟩ (.bool false)) ?_).mono ?_
  · refine (look_ring _ _ (.bool false) ps c lim (.iface T x) _ H.out hn ?_ ?_ ?_).mono ?_
    · rw [World.cell?_alloc_lt _ _ _ (by simp)]; simp
    · rw [World.cell?_alloc_at _ _ _ _ (by simp)]; rfl
    · rw [World.frozen?_alloc_at _ _ _ _ (by simp)]
    · rintro e w' ⟨he, w1, hb, hw⟩
      exact ⟨he, w1, hb.mono (by simp), hw⟩
  rintro e w3 ⟨rfl, w1, hb3, rfl⟩
  have hsz := hb3.size
  simp at hsz
  have hc1 : w1.cell? ⟨w.heap.size + 1, 0, none⟩ = some (.bool false) := (hb3.cell (p := ⟨w.heap.size + 1, 0, none⟩) (by simp)).trans (by rw [World.cell?_alloc_at _ _ _ _ (by simp)]; rfl)
  have hr3 : (w1.setCell ⟨w.heap.size + 1, 0, none⟩ (.bool false)).cell? ⟨w.heap.size + 1, 0, none⟩ = some (.bool false) := World.cell?_setCell_same _ _ _ hc1
  have hb4 : Below w.heap.size w (w1.setCell ⟨w.heap.size + 1, 0, none⟩ (.bool false)) := (HB2.out.trans (hb3.mono (by omega))).setCell (by simp) _
  have HB4 := Lib.hid hb4
  clear hb3 hb4
  go_wp2_with fail
  refine (quiet_place a b _ (R (w1.setCell ⟨w.heap.size + 1, 0, none⟩ (.bool false))) (HC.out _ HB4.out)).mono ?_
  rintro e w5 ⟨rfl, hr⟩
  have HR := Lib.hid hr
  clear hr
  go_wp2_with fail
  go_end0
  exact ⟨rfl, _, HB4.out, HR.out⟩

set_option maxRecDepth 100000 in
set_option maxHeartbeats 400000 in
theorem search_places (a b : Addr) (ps : List Int) (c : Int) (lim : Nat) (v : Value) (w : World) (h : Ch w ps c lim v) (hn : ps.length ≤ 1000) (R : World → World → Prop)
    (hc : ∀ w1, Below w.heap.size w w1 → Calls Tryd.prog 44 #[.pointer (some a), .pointer (some b)] w1 fun e w' => e = .returned (.tuple #[]) ∧ R w1 w') :
    Calls Tryd.prog 42 #[v, .func (.func 44) #[] #[.pointer (some a), .pointer (some b)]] w fun e w' => e = .returned (.tuple #[]) ∧ ∃ w1, Below w.heap.size w w1 ∧ R w1 w' := by
  obtain ⟨T, x, rfl⟩ := h.iface
  have hb2 : Below w.heap.size w ((w.alloc (.cells #[.iface T x] 24)).alloc (.cells #[.bool false] 4)) := ((Below.refl _ _).alloc (Nat.le_refl _) _).alloc (by simp) _
  have HC := Lib.hid hc
  have H := Lib.hid (h.below hb2)
  have HB2 := Lib.hid hb2
  have hmf := mkfunc
  clear hc h hb2
  go_enter Tryd.func42, Tryd.ntmps42
  go_wp2_with fail
  refine (quiet_s ⟨w.heap.size, 0, none⟩ ⟨w.heap.size + 1, 0, none⟩ _ (fun w' => ∃ w1, Below (w.heap.size + 2) ((w.alloc (.cells #[.iface T x] 24)).alloc (.cells #[.bool false] 4)) w1 ∧ w' = w1.setCell ⟨w.heap.size + 1, 0, none⟩ (.bool false)) ?_).mono ?_
  · refine (look_ring _ _ (.bool false) ps c lim (.iface T x) _ H.out hn ?_ ?_ ?_).mono ?_
    · rw [World.cell?_alloc_lt _ _ _ (by simp)]; simp
    · rw [World.cell?_alloc_at _ _ _ _ (by simp)]; rfl
    · rw [World.frozen?_alloc_at _ _ _ _ (by simp)]
    · rintro e w' ⟨he, w1, hb, hw⟩
      exact ⟨he, w1, hb.mono (by simp), hw⟩
  rintro e w3 ⟨rfl, w1, hb3, rfl⟩
  have hsz := hb3.size
  simp at hsz
  have hc1 : w1.cell? ⟨w.heap.size + 1, 0, none⟩ = some (.bool false) := (hb3.cell (p := ⟨w.heap.size + 1, 0, none⟩) (by simp)).trans (by rw [World.cell?_alloc_at _ _ _ _ (by simp)]; rfl)
  have hr3 : (w1.setCell ⟨w.heap.size + 1, 0, none⟩ (.bool false)).cell? ⟨w.heap.size + 1, 0, none⟩ = some (.bool false) := World.cell?_setCell_same _ _ _ hc1
  have hb4 : Below w.heap.size w (w1.setCell ⟨w.heap.size + 1, 0, none⟩ (.bool false)) := (HB2.out.trans (hb3.mono (by omega))).setCell (by simp) _
  have HB4 := Lib.hid hb4
  clear hb3 hb4
  go_wp2_with fail
  refine (quiet_places a b _ (R (w1.setCell ⟨w.heap.size + 1, 0, none⟩ (.bool false))) (HC.out _ HB4.out)).mono ?_
  rintro e w5 ⟨rfl, hr⟩
  have HR := Lib.hid hr
  clear hr
  go_wp2_with fail
  go_end0
  exact ⟨rfl, _, HB4.out, HR.out⟩

end Go.Proofs.YtaekepejeokciaaDoor
