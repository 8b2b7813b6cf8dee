/- Errors in places: what is unwrapped, and that a chain of wrapped errors has an end; for any such chain. -/
import Derived.Test.YtaekepejeokciaaDoorEnd
import Derived.Stop.Asserts
import Derived.Defers
import Derived.Recover
import Derived.LaidEql
import Derived.Laws.Pointers
namespace Go.Proofs.YtaekepejeokciaaDoor
open Go.RowKit

theorem noUnwrap (v : Value) (xT : TypeId) (w : World) : (Instr.typeAssert (.iface 29 v) xT 96 true).run Tryd.prog w = .ok (.tuple #[.nilIface, .bool false]) w :=
  run_typeAssert_lacksB Tryd.underlying96 (by kernel_rfl) (by kernel_rfl) v xT w
theorem hasUnwrap (v : Value) (xT : TypeId) (w : World) : (Instr.typeAssert (.iface 38 v) xT 96 true).run Tryd.prog w = .ok (.tuple #[.iface 38 v, .bool true]) w :=
  run_typeAssert_hasB Tryd.underlying96 (by kernel_rfl) v xT w
theorem noUnwraps (v : Value) (xT : TypeId) (w : World) : (Instr.typeAssert (.iface 29 v) xT 128 true).run Tryd.prog w = .ok (.tuple #[.nilIface, .bool false]) w :=
  run_typeAssert_lacksB Tryd.underlying128 (by kernel_rfl) (by kernel_rfl) v xT w
theorem noUnwraps2 (v : Value) (xT : TypeId) (w : World) : (Instr.typeAssert (.iface 38 v) xT 128 true).run Tryd.prog w = .ok (.tuple #[.nilIface, .bool false]) w :=
  run_typeAssert_lacksB Tryd.underlying128 (by kernel_rfl) (by kernel_rfl) v xT w

/-- A chain of errors: the places, the outermost one first, each in a block below the one before; the number. -/
def Ch (w : World) : List Int → Int → Nat → Value → Prop
  | [], c, _, v => v = .iface 29 (.int .i64 c)
  | p :: ps, c, lim, v => ∃ h v', v = .iface 38 (.pointer (some ⟨h, 0, none⟩)) ∧ h < lim ∧ w.heap[h]? = some (.cells #[.int .i64 p, v'] 42 (0, 0)) ∧ Ch w ps c h v'

theorem Ch.keep {w w' : World} (hk : ∀ k, k < w.heap.size → w'.heap[k]? = w.heap[k]?) : ∀ {ps : List Int} {c : Int} {lim : Nat} {v : Value}, Ch w ps c lim v → Ch w' ps c lim v
  | [], _, _, _, h => h
  | p :: ps, c, lim, v, h => by
    obtain ⟨b, v', rfl, hl, hb, hr⟩ := h
    exact ⟨b, v', rfl, hl, (hk b (Array.getElem?_eq_some_iff.1 hb).1).trans hb, Ch.keep hk hr⟩
theorem Ch.below {w w' : World} {ps : List Int} {c : Int} {lim : Nat} {v : Value} (h : Ch w ps c lim v) (hb : Below w.heap.size w w') : Ch w' ps c lim v := h.keep hb.block
theorem Ch.more {w : World} {ps : List Int} {c : Int} {lim lim' : Nat} {v : Value} (h : Ch w ps c lim v) (hl : lim ≤ lim') : Ch w ps c lim' v := by
  cases ps with
  | nil => exact h
  | cons p ps =>
    obtain ⟨b, v', e, hb, r⟩ := h
    exact ⟨b, v', e, Nat.lt_of_lt_of_le hb hl, r⟩

set_option maxHeartbeats 400000 in
theorem atunwrap (h : Nat) (p : Int) (v : Value) (w : World) (hb : w.heap[h]? = some (.cells #[.int .i64 p, v] 42 (0, 0))) :
    Calls Tryd.prog 20 #[.pointer (some ⟨h, 0, none⟩)] w fun e w' => e = .returned v ∧ w' = w := by
  have h1 : w.cell? ⟨h, 1, none⟩ = some v := by rw [cell_of_row w h 1 _ _ _ hb]; rfl
  clear hb
  go_enter Tryd.func20, Tryd.ntmps20
  go_wp2
  go_ret
  exact ⟨rfl, rfl⟩

set_option maxHeartbeats 400000 in
theorem eunwrap_code (c : Value) (w : World) :
    Calls Tryd.prog 21 #[.iface 29 c] w fun e w' => e = .returned .nilIface ∧ w = w' := by
  have h1 := noUnwrap
  go_enter Tryd.func21, Tryd.ntmps21
  go_wp2_with fail
  go_ret
  exact ⟨rfl, rfl⟩

theorem meth_unwrap (a : Addr) (w : World) : (method 299 38 (.pointer (some a)) "Unwrap").run Tryd.prog w = .ok (20, .pointer (some a)) w := by kernel_rfl

set_option maxRecDepth 100000 in
set_option maxHeartbeats 400000 in
theorem eunwrap_at (h : Nat) (p : Int) (v : Value) (w : World) (hb : w.heap[h]? = some (.cells #[.int .i64 p, v] 42 (0, 0))) :
    Calls Tryd.prog 21 #[.iface 38 (.pointer (some ⟨h, 0, none⟩))] w fun e w' => e = .returned v ∧ w = w' := by
  have h1 := hasUnwrap
  have h2 := meth_unwrap
  have HB := Lib.hid hb
  clear hb
  go_enter Tryd.func21, Tryd.ntmps21
  go_wp2_with fail
  refine (atunwrap h p v _ HB.out).mono ?_
  rintro e w' ⟨rfl, rfl⟩
  go_wp2_with fail
  go_ret
  exact ⟨rfl, rfl⟩

/-! ### recover in a frame that returns -/
theorem quiet_idle (w : World) :
    CallsD Tryd.prog 96 #[] .returning w fun e u' w' => e = .returned (.tuple #[]) ∧ u' = .returning ∧ w' = w := by
  refine callsD_of_wpS Tryd.func96 rfl fun c₀ cs hu => ?_
  apply wpS_region
  simp [wpOpsS, go_sem, recoverD, hu, Tryd.ntmps96, bodyPostS, results, Tryd.results96]
  cases c₀
  simp_all

theorem same_idle (p : Addr) (w : World) :
    CallsD Tryd.prog 107 #[.pointer (some p)] .returning w fun e u' w' => e = .returned (.tuple #[]) ∧ u' = .returning ∧ w' = w := by
  refine callsD_of_wpS Tryd.func107 rfl fun c₀ cs hu => ?_
  apply wpS_seq
  apply wpS_region
  simp [wpOpsS, go_sem, recoverD, hu, Tryd.ntmps107, Exit.thenS]
  refine wpS_cond (t := false) (by simp [Act.eval, Array.replicate]) ?_
  simp only [Bool.false_eq_true, if_false]
  refine wpS_of_wp (wp_skip ?_)
  cases c₀
  simp_all [bodyPostS, results, Tryd.results107]

/-- Two errors of a chain that aren't the same one. -/
def Differ (w : World) (a b : Value) : Prop :=
  a = .nilIface ∨ (∃ x y, a = .iface 29 x ∧ b = .iface 38 y) ∨
  ∃ h g ca cb, a = .iface 38 (.pointer (some ⟨h, 0, none⟩)) ∧ b = .iface 38 (.pointer (some ⟨g, 0, none⟩)) ∧ h ≠ g ∧ w.heap[h]? = some (.cells ca 42 (0, 0)) ∧ w.heap[g]? = some (.cells cb 42 (0, 0))

theorem mkfunc (fn : Fn) (first cap : Array Value) (w : World) : (Instr.makeFunc fn first cap).run Tryd.prog w = .ok (.func fn first cap) w := rfl

set_option maxRecDepth 100000 in
set_option maxHeartbeats 400000 in
theorem same_nil (b : Value) (w : World) :
    Calls Tryd.prog 100 #[.nilIface, b] w fun e w' => e = .returned (.bool false) ∧ Below w.heap.size w w' := by
  have hmf := mkfunc
  go_enter_defers Tryd.func100, Tryd.ntmps100
  go_wp2
  refine leaves_cons (f := 107) (args := #[.pointer (some ⟨w.heap.size, 0, none⟩)]) (by simp) (by simp [go_sem]) ?_
  refine (same_idle ⟨w.heap.size, 0, none⟩ _).mono ?_
  rintro e u' w'' ⟨rfl, rfl, rfl⟩
  simp [Leaves, settle, results, Tryd.results100, go_sem]
  exact (Below.refl _ _).alloc (Nat.le_refl _) _

theorem err_if : ∃ ms, Tryd.prog.underlying 24 = some (.interface ms) := ⟨_, Tryd.underlying24⟩
theorem at_ptr : Tryd.prog.underlying 38 = some (.pointer 42) := Tryd.underlying38
theorem at_info : ((Tryd.prog.info? 38).map fun i => i.comparable) = some true := by kernel_rfl
theorem at_size : ((Tryd.prog.info? 42).map fun i => i.size) = some 2 := by kernel_rfl

set_option maxRecDepth 100000 in
set_option maxHeartbeats 400000 in
theorem same_kinds (x y : Value) (w : World) :
    Calls Tryd.prog 100 #[.iface 29 x, .iface 38 y] w fun e w' => e = .returned (.bool false) ∧ Below w.heap.size w w' := by
  have hmf := mkfunc
  obtain ⟨ms, hms⟩ := err_if
  have he := fun W => run_eql_iface_types (P := Tryd.prog) 29 38 x y hms (by decide) W
  clear hms
  go_enter_defers Tryd.func100, Tryd.ntmps100
  go_wp2
  refine leaves_cons (f := 107) (args := #[.pointer (some ⟨w.heap.size, 0, none⟩)]) (by simp) (by simp [go_sem]) ?_
  refine (same_idle ⟨w.heap.size, 0, none⟩ _).mono ?_
  rintro e u' w'' ⟨rfl, rfl, rfl⟩
  simp [Leaves, settle, results, Tryd.results100, go_sem]
  exact (Below.refl _ _).alloc (Nat.le_refl _) _

set_option maxRecDepth 100000 in
set_option maxHeartbeats 400000 in
theorem same_blocks (h g : Nat) (ca cb : Array Value) (w : World) (hne : h ≠ g) (hh : w.heap[h]? = some (.cells ca 42 (0, 0))) (hg : w.heap[g]? = some (.cells cb 42 (0, 0))) :
    Calls Tryd.prog 100 #[.iface 38 (.pointer (some ⟨h, 0, none⟩)), .iface 38 (.pointer (some ⟨g, 0, none⟩))] w fun e w' => e = .returned (.bool false) ∧ Below w.heap.size w w' := by
  have hmf := mkfunc
  obtain ⟨ms, hms⟩ := err_if
  obtain ⟨i, hi, hcomp⟩ := Option.map_eq_some_iff.1 at_info
  obtain ⟨j, hj, hsz⟩ := Option.map_eq_some_iff.1 at_size
  have hb := (Below.refl w.heap.size w).alloc (Nat.le_refl _) (.cells #[.bool false] 4)
  have he := run_eql_iface_ptr_other (P := Tryd.prog) (w.alloc (.cells #[.bool false] 4)) (a := ⟨h, 0, none⟩) (b := ⟨g, 0, none⟩) hms at_ptr hi hcomp hj (by omega) (by intro e; injection e with e; exact hne e)
    ((hb.block h (Array.getElem?_eq_some_iff.1 hh).1).trans hh) ((hb.block g (Array.getElem?_eq_some_iff.1 hg).1).trans hg)
  clear hms hi hcomp hj hsz hh hg hb
  go_enter_defers Tryd.func100, Tryd.ntmps100
  go_wp2
  refine leaves_cons (f := 107) (args := #[.pointer (some ⟨w.heap.size, 0, none⟩)]) (by simp) (by simp [go_sem]) ?_
  refine (same_idle ⟨w.heap.size, 0, none⟩ _).mono ?_
  rintro e u' w'' ⟨rfl, rfl, rfl⟩
  simp [Leaves, settle, results, Tryd.results100, go_sem]
  exact (Below.refl _ _).alloc (Nat.le_refl _) _

theorem same_any (a b : Value) (w : World) (h : Differ w a b) :
    Calls Tryd.prog 100 #[a, b] w fun e w' => e = .returned (.bool false) ∧ Below w.heap.size w w' := by
  rcases h with rfl | ⟨x, y, rfl, rfl⟩ | ⟨h, g, ca, cb, rfl, rfl, hne, hh, hg⟩
  · exact same_nil b w
  · exact same_kinds x y w
  · exact same_blocks h g ca cb w hne hh hg

end Go.Proofs.YtaekepejeokciaaDoor
