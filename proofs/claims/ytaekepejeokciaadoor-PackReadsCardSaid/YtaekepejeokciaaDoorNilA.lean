/- What is told of nil: no number, no place. -/
import Derived.Test.YtaekepejeokciaaDoorPlcB
namespace Go.Proofs.YtaekepejeokciaaDoor
set_option maxRecDepth 100000
open Go.RowKit

set_option maxHeartbeats 400000 in
theorem endless_nil (w : World) :
    Calls Tryd.prog 84 #[.nilIface, .slice none 0 0] w fun e w' => e = .returned (.bool false) ∧ w' = w := by
  go_enter Tryd.func84, Tryd.ntmps84
  go_wp2_with fail
  go_loopw [0, 5, 6, 7] (fun a _ _ _ wr => a = .nilIface ∧ wr = w) (fun _ _ _ _ _ => 0)
  case atStart => exact ⟨rfl, rfl⟩
  case round =>
    obtain ⟨rfl, rfl⟩ := hrel
    go_wp2_with fail
    go_ret
    exact ⟨rfl, rfl⟩

set_option maxHeartbeats 400000 in
theorem look_nil (a b : Addr) (x : Value) (w : World) (ha : w.cell? a = some .nilIface) (hb : w.cell? b = some x) (hf : w.frozen? b = false) :
    Calls Tryd.prog 83 #[.pointer (some a), .pointer (some b)] w fun e w' => e = .returned (.tuple #[]) ∧ ∃ w1, Below w.heap.size w w1 ∧ w' = w1.setCell b (.bool false) := by
  go_enter Tryd.func83, Tryd.ntmps83
  go_wp2_with fail
  refine (endless_nil _).mono ?_
  rintro e w1 ⟨rfl, rfl⟩
  go_wp2_with fail
  go_end0
  exact ⟨rfl, _, Below.refl _ _, rfl⟩

set_option maxHeartbeats 400000 in
theorem searchn_code (a b : Addr) (w : World) (R : World → World → Prop)
    (hc : ∀ w1, Below w.heap.size w w1 → Calls Tryd.prog 43 #[.pointer (some a), .pointer (some b)] w1 fun e w' => e = .returned (.tuple #[]) ∧ R w1 w') :
    Calls Tryd.prog 42 #[.nilIface, .func (.func 43) #[] #[.pointer (some a), .pointer (some b)]] w fun e w' => e = .returned (.tuple #[]) ∧ ∃ w1, Below w.heap.size w w1 ∧ R w1 w' := by
  have hb2 : Below w.heap.size w ((w.alloc (.cells #[.nilIface] 24)).alloc (.cells #[.bool false] 4)) := ((Below.refl _ _).alloc (Nat.le_refl _) _).alloc (by simp) _
  have HC := Lib.hid hc
  have HB2 := Lib.hid hb2
  have hmf := mkfunc
  clear hc hb2
  go_enter Tryd.func42, Tryd.ntmps42
  go_wp2_with fail
  refine (quiet_s ⟨w.heap.size, 0, none⟩ ⟨w.heap.size + 1, 0, none⟩ _ (fun w' => ∃ w1, Below (w.heap.size + 2) ((w.alloc (.cells #[.nilIface] 24)).alloc (.cells #[.bool false] 4)) w1 ∧ w' = w1.setCell ⟨w.heap.size + 1, 0, none⟩ (.bool false)) ?_).mono ?_
  · refine (look_nil _ _ (.bool false) _ ?_ ?_ ?_).mono ?_
    · rw [World.cell?_alloc_lt _ _ _ (by simp)]; simp
    · rw [World.cell?_alloc_at _ _ _ _ (by simp)]; rfl
    · rw [World.frozen?_alloc_at _ _ _ _ (by simp)]
    · rintro e w' ⟨he, w1, hb, hw⟩
      exact ⟨he, w1, hb.mono (by simp), hw⟩
  rintro e w3 ⟨rfl, w1, hb3, rfl⟩
  have hsz := hb3.size
  simp at hsz
  have hc1 : w1.cell? ⟨w.heap.size + 1, 0, none⟩ = some (.bool false) := (hb3.cell (p := ⟨w.heap.size + 1, 0, none⟩) (by simp)).trans (by rw [World.cell?_alloc_at _ _ _ _ (by simp)]; rfl)
  have hr3 : (w1.setCell ⟨w.heap.size + 1, 0, none⟩ (.bool false)).cell? ⟨w.heap.size + 1, 0, none⟩ = some (.bool false) := World.cell?_setCell_same _ _ _ hc1
  have hb4 : Below w.heap.size w (w1.setCell ⟨w.heap.size + 1, 0, none⟩ (.bool false)) := (HB2.out.trans (hb3.mono (by omega))).setCell (by simp) _
  have HB4 := Lib.hid hb4
  clear hb3 hb4
  go_wp2_with fail
  refine (quiet_code a b _ (R (w1.setCell ⟨w.heap.size + 1, 0, none⟩ (.bool false))) (HC.out _ HB4.out)).mono ?_
  rintro e w5 ⟨rfl, hr⟩
  have HR := Lib.hid hr
  clear hr
  go_wp2_with fail
  go_end0
  exact ⟨rfl, _, HB4.out, HR.out⟩

set_option maxHeartbeats 400000 in
theorem searchn_place (a b : Addr) (w : World) (R : World → World → Prop)
    (hc : ∀ w1, Below w.heap.size w w1 → Calls Tryd.prog 46 #[.pointer (some a), .pointer (some b)] w1 fun e w' => e = .returned (.tuple #[]) ∧ R w1 w') :
    Calls Tryd.prog 42 #[.nilIface, .func (.func 46) #[] #[.pointer (some a), .pointer (some b)]] w fun e w' => e = .returned (.tuple #[]) ∧ ∃ w1, Below w.heap.size w w1 ∧ R w1 w' := by
  have hb2 : Below w.heap.size w ((w.alloc (.cells #[.nilIface] 24)).alloc (.cells #[.bool false] 4)) := ((Below.refl _ _).alloc (Nat.le_refl _) _).alloc (by simp) _
  have HC := Lib.hid hc
  have HB2 := Lib.hid hb2
  have hmf := mkfunc
  clear hc hb2
  go_enter Tryd.func42, Tryd.ntmps42
  go_wp2_with fail
  refine (quiet_s ⟨w.heap.size, 0, none⟩ ⟨w.heap.size + 1, 0, none⟩ _ (fun w' => ∃ w1, Below (w.heap.size + 2) ((w.alloc (.cells #[.nilIface] 24)).alloc (.cells #[.bool false] 4)) w1 ∧ w' = w1.setCell ⟨w.heap.size + 1, 0, none⟩ (.bool false)) ?_).mono ?_
  · refine (look_nil _ _ (.bool false) _ ?_ ?_ ?_).mono ?_
    · rw [World.cell?_alloc_lt _ _ _ (by simp)]; simp
    · rw [World.cell?_alloc_at _ _ _ _ (by simp)]; rfl
    · rw [World.frozen?_alloc_at _ _ _ _ (by simp)]
    · rintro e w' ⟨he, w1, hb, hw⟩
      exact ⟨he, w1, hb.mono (by simp), hw⟩
  rintro e w3 ⟨rfl, w1, hb3, rfl⟩
  have hsz := hb3.size
  simp at hsz
  have hc1 : w1.cell? ⟨w.heap.size + 1, 0, none⟩ = some (.bool false) := (hb3.cell (p := ⟨w.heap.size + 1, 0, none⟩) (by simp)).trans (by rw [World.cell?_alloc_at _ _ _ _ (by simp)]; rfl)
  have hr3 : (w1.setCell ⟨w.heap.size + 1, 0, none⟩ (.bool false)).cell? ⟨w.heap.size + 1, 0, none⟩ = some (.bool false) := World.cell?_setCell_same _ _ _ hc1
  have hb4 : Below w.heap.size w (w1.setCell ⟨w.heap.size + 1, 0, none⟩ (.bool false)) := (HB2.out.trans (hb3.mono (by omega))).setCell (by simp) _
  have HB4 := Lib.hid hb4
  clear hb3 hb4
  go_wp2_with fail
  refine (quiet_place a b _ (R (w1.setCell ⟨w.heap.size + 1, 0, none⟩ (.bool false))) (HC.out _ HB4.out)).mono ?_
  rintro e w5 ⟨rfl, hr⟩
  have HR := Lib.hid hr
  clear hr
  go_wp2_with fail
  go_end0
  exact ⟨rfl, _, HB4.out, HR.out⟩

set_option maxHeartbeats 400000 in
theorem searchn_places (a b : Addr) (w : World) (R : World → World → Prop)
    (hc : ∀ w1, Below w.heap.size w w1 → Calls Tryd.prog 44 #[.pointer (some a), .pointer (some b)] w1 fun e w' => e = .returned (.tuple #[]) ∧ R w1 w') :
    Calls Tryd.prog 42 #[.nilIface, .func (.func 44) #[] #[.pointer (some a), .pointer (some b)]] w fun e w' => e = .returned (.tuple #[]) ∧ ∃ w1, Below w.heap.size w w1 ∧ R w1 w' := by
  have hb2 : Below w.heap.size w ((w.alloc (.cells #[.nilIface] 24)).alloc (.cells #[.bool false] 4)) := ((Below.refl _ _).alloc (Nat.le_refl _) _).alloc (by simp) _
  have HC := Lib.hid hc
  have HB2 := Lib.hid hb2
  have hmf := mkfunc
  clear hc hb2
  go_enter Tryd.func42, Tryd.ntmps42
  go_wp2_with fail
  refine (quiet_s ⟨w.heap.size, 0, none⟩ ⟨w.heap.size + 1, 0, none⟩ _ (fun w' => ∃ w1, Below (w.heap.size + 2) ((w.alloc (.cells #[.nilIface] 24)).alloc (.cells #[.bool false] 4)) w1 ∧ w' = w1.setCell ⟨w.heap.size + 1, 0, none⟩ (.bool false)) ?_).mono ?_
  · refine (look_nil _ _ (.bool false) _ ?_ ?_ ?_).mono ?_
    · rw [World.cell?_alloc_lt _ _ _ (by simp)]; simp
    · rw [World.cell?_alloc_at _ _ _ _ (by simp)]; rfl
    · rw [World.frozen?_alloc_at _ _ _ _ (by simp)]
    · rintro e w' ⟨he, w1, hb, hw⟩
      exact ⟨he, w1, hb.mono (by simp), hw⟩
  rintro e w3 ⟨rfl, w1, hb3, rfl⟩
  have hsz := hb3.size
  simp at hsz
  have hc1 : w1.cell? ⟨w.heap.size + 1, 0, none⟩ = some (.bool false) := (hb3.cell (p := ⟨w.heap.size + 1, 0, none⟩) (by simp)).trans (by rw [World.cell?_alloc_at _ _ _ _ (by simp)]; rfl)
  have hr3 : (w1.setCell ⟨w.heap.size + 1, 0, none⟩ (.bool false)).cell? ⟨w.heap.size + 1, 0, none⟩ = some (.bool false) := World.cell?_setCell_same _ _ _ hc1
  have hb4 : Below w.heap.size w (w1.setCell ⟨w.heap.size + 1, 0, none⟩ (.bool false)) := (HB2.out.trans (hb3.mono (by omega))).setCell (by simp) _
  have HB4 := Lib.hid hb4
  clear hb3 hb4
  go_wp2_with fail
  refine (quiet_places a b _ (R (w1.setCell ⟨w.heap.size + 1, 0, none⟩ (.bool false))) (HC.out _ HB4.out)).mono ?_
  rintro e w5 ⟨rfl, hr⟩
  have HR := Lib.hid hr
  clear hr
  go_wp2_with fail
  go_end0
  exact ⟨rfl, _, HB4.out, HR.out⟩

set_option maxHeartbeats 400000 in
theorem as_nil (v : Value) (w : World) :
    Calls Tryd.prog 17 #[.nilIface, v] w fun e w' => e = .returned (.bool false) ∧ w' = w := by
  go_enter Tryd.func17, Tryd.ntmps17
  go_wp2_with fail
  go_ret
  exact ⟨rfl, rfl⟩

set_option maxHeartbeats 400000 in
theorem outer_nil (w : World) :
    Calls Tryd.prog 45 #[.nilIface] w fun e w' => e = .returned (.pointer none) ∧ Below w.heap.size w w' := by
  go_enter Tryd.func45, Tryd.ntmps45
  go_wp2_with fail
  refine (as_nil _ _).mono ?_
  rintro e w2 ⟨rfl, rfl⟩
  go_wp2_with fail
  go_ret
  exact ⟨rfl, (Below.refl _ _).alloc (Nat.le_refl _) _⟩

set_option maxHeartbeats 400000 in
theorem code1_nil (a b : Addr) (w : World) (ha : w.cell? a = some .nilIface) :
    Calls Tryd.prog 43 #[.pointer (some a), .pointer (some b)] w fun e w' => e = .returned (.tuple #[]) ∧ Below w.heap.size w w' := by
  have hb1 : Below w.heap.size w (w.alloc (.cells #[.int .i64 0] 29)) := (Below.refl _ _).alloc (Nat.le_refl _) _
  have ha' : (w.alloc (.cells #[.int .i64 0] 29)).cell? a = some .nilIface := (hb1.cell (lt_of_cell ha)).trans ha
  have HB := Lib.hid hb1
  clear hb1 ha
  go_enter Tryd.func43, Tryd.ntmps43
  go_wp2_with fail
  refine (as_nil _ _).mono ?_
  rintro e w2 ⟨rfl, rfl⟩
  go_wp2_with fail
  go_end0
  exact ⟨rfl, HB.out⟩

set_option maxHeartbeats 400000 in
theorem place1_nil (a b : Addr) (w : World) (ha : w.cell? a = some .nilIface) :
    Calls Tryd.prog 46 #[.pointer (some a), .pointer (some b)] w fun e w' => e = .returned (.tuple #[]) ∧ Below w.heap.size w w' := by
  go_enter Tryd.func46, Tryd.ntmps46
  go_wp2_with fail
  refine (outer_nil _).mono ?_
  rintro e w2 ⟨rfl, hb⟩
  have HB := Lib.hid hb
  clear hb
  go_wp2_with fail
  go_end0
  exact ⟨rfl, HB.out⟩

set_option maxHeartbeats 400000 in
theorem places1_nil (a b : Addr) (w : World) (ha : w.cell? a = some .nilIface) :
    Calls Tryd.prog 44 #[.pointer (some a), .pointer (some b)] w fun e w' => e = .returned (.tuple #[]) ∧ Below w.heap.size w w' := by
  go_enter Tryd.func44, Tryd.ntmps44
  go_wp2_with fail
  refine (outer_nil _).mono ?_
  rintro e w2 ⟨rfl, hb⟩
  have HB := Lib.hid hb
  clear hb
  go_wp2_with fail
  go_loopw [2] (fun i wr => i = .pointer none ∧ wr = w2) (fun _ _ => 0)
  case atStart => exact ⟨rfl, rfl⟩
  case round =>
    obtain ⟨rfl, rfl⟩ := hrel
    go_wp2_with fail
    go_end0
    exact ⟨rfl, HB.out⟩

set_option maxHeartbeats 400000 in
theorem code_nil (w : World) :
    Calls Tryd.prog 10 #[.nilIface] w fun e w' => e = .returned (.int .i64 0) ∧ Below w.heap.size w w' := by
  have hb2 : Below w.heap.size w ((w.alloc (.cells #[.nilIface] 24)).alloc (.cells #[.int .i64 0] 29)) := ((Below.refl _ _).alloc (Nat.le_refl _) _).alloc (by simp) _
  have ha2 : ((w.alloc (.cells #[.nilIface] 24)).alloc (.cells #[.int .i64 0] 29)).cell? ⟨w.heap.size, 0, none⟩ = some .nilIface := by rw [World.cell?_alloc_lt _ _ _ (by simp)]; simp
  have hc2 : ((w.alloc (.cells #[.nilIface] 24)).alloc (.cells #[.int .i64 0] 29)).cell? ⟨w.heap.size + 1, 0, none⟩ = some (.int .i64 0) := by rw [World.cell?_alloc_at _ _ _ _ (by simp)]; rfl
  have HB2 := Lib.hid hb2
  have HA := Lib.hid ha2
  have HC := Lib.hid hc2
  have hmf := mkfunc
  clear hb2 ha2 hc2
  go_enter Tryd.func10, Tryd.ntmps10
  go_wp2_with fail
  refine (searchn_code ⟨w.heap.size, 0, none⟩ ⟨w.heap.size + 1, 0, none⟩ _ (fun w1 w' => Below w1.heap.size w1 w') ?_).mono ?_
  · intro w1 hb1
    have hl : w.heap.size + 1 < ((w.alloc (.cells #[.nilIface] 24)).alloc (.cells #[.int .i64 0] 29)).heap.size := by simp
    exact code1_nil _ _ w1 ((hb1.cell (p := ⟨w.heap.size, 0, none⟩) (Nat.lt_of_succ_lt hl)).trans HA.out)
  rintro e w3 ⟨rfl, w1, hb1, hr⟩
  have hsz := hb1.size
  simp at hsz
  have hbw3 : Below w.heap.size w w3 := HB2.out.trans ((hb1.mono (by simp; omega)).trans (hr.mono (by omega)))
  have hk : w3.cell? ⟨w.heap.size + 1, 0, none⟩ = some (.int .i64 0) := (hr.cell (p := ⟨w.heap.size + 1, 0, none⟩) (by show w.heap.size + 1 < _; omega)).trans ((hb1.cell (p := ⟨w.heap.size + 1, 0, none⟩) (by simp)).trans HC.out)
  have HK := Lib.hid hbw3
  clear hb1 hr hbw3
  go_wp2_with fail
  go_ret
  exact ⟨rfl, HK.out⟩

set_option maxHeartbeats 400000 in
theorem place_nil (w : World) :
    Calls Tryd.prog 13 #[.nilIface] w fun e w' => e = .returned (.int .i64 (-1)) ∧ Below w.heap.size w w' := by
  have hb2 : Below w.heap.size w ((w.alloc (.cells #[.nilIface] 24)).alloc (.cells #[.int .i64 (-1)] 3)) := ((Below.refl _ _).alloc (Nat.le_refl _) _).alloc (by simp) _
  have ha2 : ((w.alloc (.cells #[.nilIface] 24)).alloc (.cells #[.int .i64 (-1)] 3)).cell? ⟨w.heap.size, 0, none⟩ = some .nilIface := by rw [World.cell?_alloc_lt _ _ _ (by simp)]; simp
  have hc2 : ((w.alloc (.cells #[.nilIface] 24)).alloc (.cells #[.int .i64 (-1)] 3)).cell? ⟨w.heap.size + 1, 0, none⟩ = some (.int .i64 (-1)) := by rw [World.cell?_alloc_at _ _ _ _ (by simp)]; rfl
  have HB2 := Lib.hid hb2
  have HA := Lib.hid ha2
  have HC := Lib.hid hc2
  have hmf := mkfunc
  clear hb2 ha2 hc2
  go_enter Tryd.func13, Tryd.ntmps13
  go_wp2_with fail
  refine (searchn_place ⟨w.heap.size, 0, none⟩ ⟨w.heap.size + 1, 0, none⟩ _ (fun w1 w' => Below w1.heap.size w1 w') ?_).mono ?_
  · intro w1 hb1
    have hl : w.heap.size + 1 < ((w.alloc (.cells #[.nilIface] 24)).alloc (.cells #[.int .i64 (-1)] 3)).heap.size := by simp
    exact place1_nil _ _ w1 ((hb1.cell (p := ⟨w.heap.size, 0, none⟩) (Nat.lt_of_succ_lt hl)).trans HA.out)
  rintro e w3 ⟨rfl, w1, hb1, hr⟩
  have hsz := hb1.size
  simp at hsz
  have hbw3 : Below w.heap.size w w3 := HB2.out.trans ((hb1.mono (by simp; omega)).trans (hr.mono (by omega)))
  have hk : w3.cell? ⟨w.heap.size + 1, 0, none⟩ = some (.int .i64 (-1)) := (hr.cell (p := ⟨w.heap.size + 1, 0, none⟩) (by show w.heap.size + 1 < _; omega)).trans ((hb1.cell (p := ⟨w.heap.size + 1, 0, none⟩) (by simp)).trans HC.out)
  have HK := Lib.hid hbw3
  clear hb1 hr hbw3
  go_wp2_with fail
  go_ret
  exact ⟨rfl, HK.out⟩

set_option maxHeartbeats 400000 in
theorem places_nil (w : World) :
    Calls Tryd.prog 12 #[.nilIface] w fun e w' => e = .returned (.slice none 0 0) ∧ Below w.heap.size w w' := by
  have hb2 : Below w.heap.size w ((w.alloc (.cells #[.nilIface] 24)).alloc (.cells #[.slice none 0 0] 22)) := ((Below.refl _ _).alloc (Nat.le_refl _) _).alloc (by simp) _
  have ha2 : ((w.alloc (.cells #[.nilIface] 24)).alloc (.cells #[.slice none 0 0] 22)).cell? ⟨w.heap.size, 0, none⟩ = some .nilIface := by rw [World.cell?_alloc_lt _ _ _ (by simp)]; simp
  have hc2 : ((w.alloc (.cells #[.nilIface] 24)).alloc (.cells #[.slice none 0 0] 22)).cell? ⟨w.heap.size + 1, 0, none⟩ = some (.slice none 0 0) := by rw [World.cell?_alloc_at _ _ _ _ (by simp)]; rfl
  have HB2 := Lib.hid hb2
  have HA := Lib.hid ha2
  have HC := Lib.hid hc2
  have hmf := mkfunc
  clear hb2 ha2 hc2
  go_enter Tryd.func12, Tryd.ntmps12
  go_wp2_with fail
  refine (searchn_places ⟨w.heap.size, 0, none⟩ ⟨w.heap.size + 1, 0, none⟩ _ (fun w1 w' => Below w1.heap.size w1 w') ?_).mono ?_
  · intro w1 hb1
    have hl : w.heap.size + 1 < ((w.alloc (.cells #[.nilIface] 24)).alloc (.cells #[.slice none 0 0] 22)).heap.size := by simp
    exact places1_nil _ _ w1 ((hb1.cell (p := ⟨w.heap.size, 0, none⟩) (Nat.lt_of_succ_lt hl)).trans HA.out)
  rintro e w3 ⟨rfl, w1, hb1, hr⟩
  have hsz := hb1.size
  simp at hsz
  have hbw3 : Below w.heap.size w w3 := HB2.out.trans ((hb1.mono (by simp; omega)).trans (hr.mono (by omega)))
  have hk : w3.cell? ⟨w.heap.size + 1, 0, none⟩ = some (.slice none 0 0) := (hr.cell (p := ⟨w.heap.size + 1, 0, none⟩) (by show w.heap.size + 1 < _; omega)).trans ((hb1.cell (p := ⟨w.heap.size + 1, 0, none⟩) (by simp)).trans HC.out)
  have HK := Lib.hid hbw3
  clear hb1 hr hbw3
  go_wp2_with fail
  go_ret
  exact ⟨rfl, HK.out⟩

end Go.Proofs.YtaekepejeokciaaDoor
