/- math/bits.Add64, Sub64, as this program calls them; a number of eight words and a Bool as a result. -/
import Derived.Test.YtklbcpaoccdmeaaDoorArr
import Derived.Test.YtklbcpaoccdmeaaDoorRows
import Derived.Shelf.Spec.BitsCarry
import Derived.Laws.BitsAllLaws
import Derived.Deep.CutRange
import Derived.Deep.CutBlock
import Derived.RegionTactic
import Derived.Lib.Hide
import Derived.IntWalk
namespace Go.Proofs.YtklbcpaoccdmeaaDoor
set_option maxRecDepth 100000
open Go.RowKit

theorem add64n (x y c s o : Nat) (hc : c ≤ 1) (hs : s = (x + y + c) % 18446744073709551616) (ho : o = (x + y + c) / 18446744073709551616) (w : World) : (callFunc 33 #[.int .u64 (x : Int), .int .u64 (y : Int), .int .u64 (c : Int)]).run Tryd.prog w =
    .ok (.value (.tuple #[.int .u64 (s : Int), .int .u64 (o : Int)])) w := by
  subst hs ho
  rw [run_callFunc_extern Tryd.func33 (by kernel_rfl) (by kernel_rfl) (by kernel_rfl) (e := add64Entry) (by kernel_rfl), run_add64 x y c (by omega) (by omega) (by omega) (by omega)]
  simp only [Result.andThen]
  congr 5 <;> omega
theorem sub64n (x y b d o : Nat) (hb : b ≤ 1) (hd : d = (x + 18446744073709551616 - y - b) % 18446744073709551616) (ho : o = if x < y + b then 1 else 0) (w : World) : (callFunc 31 #[.int .u64 (x : Int), .int .u64 (y : Int), .int .u64 (b : Int)]).run Tryd.prog w =
    .ok (.value (.tuple #[.int .u64 (d : Int), .int .u64 (o : Int)])) w := by
  subst hd ho
  rw [run_callFunc_extern Tryd.func31 (by kernel_rfl) (by kernel_rfl) (by kernel_rfl) (e := sub64Entry) (by kernel_rfl), run_sub64 x y b hb]
  rfl
theorem nm_info (N : Nat) : (Tryd.prog.info? 36).map (·.size) = some (Nm N).toArray.size := by rw [Nm_size]; kernel_rfl
theorem by_info (N : Nat) : (Tryd.prog.info? 23).map (·.size) = some (By N 32).toArray.size := by rw [List.size_toArray, By_length]; kernel_rfl
theorem results_row_slot {P : Program} {fn : Func} {p q : Tmp} {ty : TypeId} (h : fn.results = #[.cell p ty, .tmp q]) (tmps : Array Value) (w : World) (g : Nat) (t : TypeId) (cs : Array Value) (fr : Nat × Nat) (d : TypeDesc) (v : Value)
    (hp : tmps.getD p undef = .pointer (some ⟨g, 0, none⟩)) (hg : w.heap[g]? = some (.cells cs t fr))
    (hu : P.underlying ty = some d) (hd : (match d with | .struct _ | .array _ _ => true | _ => false) = true) (hi : (P.info? ty).map (·.size) = some cs.size) (hv : tmps.getD q undef = v) :
    (results fn tmps).run P w = .ok (.tuple #[.agg cs, v]) w := by
  have hp' : tmps[p]?.getD undef = .pointer (some ⟨g, 0, none⟩) := by simpa using hp
  have hv' : tmps[q]?.getD undef = v := by simpa using hv
  simp [results, h, hp', hv', asAddr, run_loadVar_row w g t ty cs fr d hg hu hd hi]

theorem Row.new1 (w : World) (X : Obj) (l : List Value) (T : TypeId) : Row ((w.alloc X).alloc (.cells l.toArray T)) (w.heap.size + 1) T l := heap_alloc2_new _ _ _
theorem Row.new2 (w : World) (X Y : Obj) (l : List Value) (T : TypeId) : Row (((w.alloc X).alloc Y).alloc (.cells l.toArray T)) (w.heap.size + 1 + 1) T l := by
  have h := Row.new ((w.alloc X).alloc Y) l T
  rwa [show ((w.alloc X).alloc Y).heap.size = w.heap.size + 1 + 1 by simp] at h
theorem Row.new3 (w : World) (X Y Z : Obj) (l : List Value) (T : TypeId) : Row ((((w.alloc X).alloc Y).alloc Z).alloc (.cells l.toArray T)) (w.heap.size + 1 + 1 + 1) T l := by
  have h := Row.new (((w.alloc X).alloc Y).alloc Z) l T
  rwa [show (((w.alloc X).alloc Y).alloc Z).heap.size = w.heap.size + 1 + 1 + 1 by simp] at h
theorem Below.alloc2 (w : World) (X Y : Obj) : Below w.heap.size w ((w.alloc X).alloc Y) := ((Below.refl _ _).alloc (Nat.le_refl _) _).alloc (by simp) _
theorem Below.alloc3 (w : World) (X Y Z : Obj) : Below w.heap.size w (((w.alloc X).alloc Y).alloc Z) := (Below.alloc2 w X Y).alloc (by simp; omega) _
theorem Below.alloc4 (w : World) (X Y Z V : Obj) : Below w.heap.size w ((((w.alloc X).alloc Y).alloc Z).alloc V) := (Below.alloc3 w X Y Z).alloc (by simp; omega) _

end Go.Proofs.YtklbcpaoccdmeaaDoor
