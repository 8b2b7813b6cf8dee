/- Bytes of numbers as cells; rows that are new, stored whole; a row and a slot as results. Over any program. -/
import Derived.Test.YthpbipebpaeagaaDoorRowz
import Derived.Test.YthpbipebpaeagaaDoorNumb
import Derived.Test.YthpbipebpaeagaaDoorRows
import Derived.Deep.MidRow
import Derived.Deep.CutRange
import Derived.Deep.CutBlock
import Derived.RegionTactic
import Derived.Lib.Hide
import Derived.IntWalk
namespace Go.Proofs.YthpbipebpaeagaaDoor
open Go.RowKit

/-- A number's first bytes; their cells. -/
def By (N n : Nat) : List Value := Tabs .u8 (byt N) n
theorem By_length (N n : Nat) : (By N n).length = n := Tabs_length ..
theorem By_get (N n : Nat) {k : Nat} (hk : k < n) : (By N n)[k]? = some (.int .u8 ((byt N k : Nat) : Int)) := Tabs_get _ _ _ hk
theorem By_one (N n : Nat) : (By N n).toArray.all (·.oneCell') = true := Tabs_one ..
theorem By_ext {l : List Value} (N n : Nat) (hl : l.length = n) (h : ∀ k, k < n → l[k]? = some (.int .u8 ((byt N k : Nat) : Int))) : l = By N n := by
  refine List.ext_getElem? fun k => ?_
  by_cases hk : k < n
  · rw [h k hk, By_get N n hk]
  · rw [List.getElem?_eq_none (by omega), List.getElem?_eq_none (by rw [By_length]; omega)]

/-- The first bytes of a number, as a number. -/
theorem mod_byte (N k : Nat) : N % 256 ^ (k + 1) = N % 256 ^ k + byt N k * 256 ^ k := by
  rw [Nat.pow_succ, Nat.mod_mul, Nat.mul_comm (256 ^ k)]
  unfold byt
  rw [← pow256]


theorem results_row_slot {P : Program} {fn : Func} {p q : Tmp} {ty : TypeId} (h : fn.results = #[.cell p ty, .tmp q]) (tmps : Array Value) (w : World) (g : Nat) (t : TypeId) (cs : Array Value) (fr : Nat × Nat) (d : TypeDesc) (v : Value)
    (hp : tmps.getD p undef = .pointer (some ⟨g, 0, none⟩)) (hg : w.heap[g]? = some (.cells cs t fr))
    (hu : P.underlying ty = some d) (hd : (match d with | .struct _ | .array _ _ => true | _ => false) = true) (hi : (P.info? ty).map (·.size) = some cs.size) (hv : tmps.getD q undef = v) :
    (results fn tmps).run P w = .ok (.tuple #[.agg cs, v]) w := by
  have hp' : tmps[p]?.getD undef = .pointer (some ⟨g, 0, none⟩) := by simpa using hp
  have hv' : tmps[q]?.getD undef = v := by simpa using hv
  simp [results, h, hp', hv', asAddr, run_loadVar_row w g t ty cs fr d hg hu hd hi]

theorem Row.new1 (w : World) (X : Obj) (l : List Value) (T : TypeId) : Row ((w.alloc X).alloc (.cells l.toArray T)) (w.heap.size + 1) T l := heap_alloc2_new _ _ _
theorem Row.new2 (w : World) (X Y : Obj) (l : List Value) (T : TypeId) : Row (((w.alloc X).alloc Y).alloc (.cells l.toArray T)) (w.heap.size + 1 + 1) T l := by
  have h := Row.new ((w.alloc X).alloc Y) l T
  rwa [show ((w.alloc X).alloc Y).heap.size = w.heap.size + 1 + 1 by simp] at h
theorem Row.new3 (w : World) (X Y Z : Obj) (l : List Value) (T : TypeId) : Row ((((w.alloc X).alloc Y).alloc Z).alloc (.cells l.toArray T)) (w.heap.size + 1 + 1 + 1) T l := by
  have h := Row.new (((w.alloc X).alloc Y).alloc Z) l T
  rwa [show (((w.alloc X).alloc Y).alloc Z).heap.size = w.heap.size + 1 + 1 + 1 by simp] at h
theorem Below.alloc2 (w : World) (X Y : Obj) : Below w.heap.size w ((w.alloc X).alloc Y) := ((Below.refl _ _).alloc (Nat.le_refl _) _).alloc (by simp) _
theorem Below.alloc3 (w : World) (X Y Z : Obj) : Below w.heap.size w (((w.alloc X).alloc Y).alloc Z) := (Below.alloc2 w X Y).alloc (by simp; omega) _
theorem Below.alloc4 (w : World) (X Y Z V : Obj) : Below w.heap.size w ((((w.alloc X).alloc Y).alloc Z).alloc V) := (Below.alloc3 w X Y Z).alloc (by simp; omega) _


theorem Row.setRow {w : World} {g : Nat} {T : TypeId} {l : List Value} (h : Row w g T l) (m : List Value) : Row (w.setRow g m.toArray) g T m := setRow_heap w g _ _ _ _ h
theorem Row.setRowOther {w : World} {g k : Nat} {T : TypeId} {l : List Value} (h : Row w g T l) (hk : g ≠ k) (m : Array Value) : Row (w.setRow k m) g T l := (setRow_other w k g m hk).trans h


theorem Row.range {w : World} {g : Nat} {T : TypeId} {l : List Value} (h : Row w g T l) : w.rangeAt g 0 l := by
  intro j v hv
  rw [Nat.zero_add]
  exact h.cell hv
theorem By_nat (N n : Nat) : By N n = ((List.range n).map (byt N)).map fun x => .int .u8 ((x : Nat) : Int) := by simp [By, Tabs]
theorem byts_lt (N n : Nat) : ∀ x ∈ (List.range n).map (byt N), x < 256 := by
  intro x hx
  obtain ⟨i, _, rfl⟩ := List.mem_map.1 hx
  exact byt_lt N i

end Go.Proofs.YthpbipebpaeagaaDoor
