/- Walking over trees: a place in a slice of rows, a row loaded from any place; the program's and the document's depth. -/
import Derived.Test.YtpegkalhjnldkaaTrM
import Derived.Test.YtpegkalhjnldkaaRowz
import Derived.Deep.Slices
import Derived.Laws.Rows
import Derived.Laws.BitsAllLaws
import Derived.Deep.CutRange
import Derived.Deep.CutBlock
import Derived.RegionTactic
import Derived.IntWalk
namespace Go.Proofs.Ytpegkalhjnldkaa
set_option maxRecDepth 100000
set_option linter.unusedSimpArgs false
set_option linter.unusedVariables false
open Go.RowKit

def rowD : TypeDesc → Bool
  | .struct _ => true
  | .array _ _ => true
  | _ => false
theorem Row.new1 (w : World) (X : Obj) (l : List Value) (T : TypeId) : Row ((w.alloc X).alloc (.cells l.toArray T)) (w.heap.size + 1) T l := heap_alloc2_new _ _ _
theorem Row.new2 (w : World) (X Y : Obj) (l : List Value) (T : TypeId) : Row (((w.alloc X).alloc Y).alloc (.cells l.toArray T)) (w.heap.size + 1 + 1) T l := by
  have h := Row.new ((w.alloc X).alloc Y) l T
  rwa [show ((w.alloc X).alloc Y).heap.size = w.heap.size + 1 + 1 by simp] at h
theorem Below.alloc1 (w : World) (X : Obj) : Below w.heap.size w (w.alloc X) := (Below.refl _ _).alloc (Nat.le_refl _) _
theorem Below.alloc2 (w : World) (X Y : Obj) : Below w.heap.size w ((w.alloc X).alloc Y) := ((Below.refl _ _).alloc (Nat.le_refl _) _).alloc (by simp) _
theorem Below.alloc3 (w : World) (X Y Z : Obj) : Below w.heap.size w (((w.alloc X).alloc Y).alloc Z) := (Below.alloc2 w X Y).alloc (by simp; omega) _
theorem run_loadVar_at {P : Program} (w : World) (a : Addr) (ty : TypeId) (cs : List Value) (d : TypeDesc) (hc : ∀ j v, cs[j]? = some v → w.cell? (a.add j) = some v)
    (hu : P.underlying ty = some d) (hd : rowD d = true) (hi : (P.info? ty).map (·.size) = some cs.length) : (loadVar ty a).run P w = .ok (.agg cs.toArray) w := by
  have hl : (loadCells a cs.length).run P w = .ok cs.toArray w := run_loadCells_list (P := P) w a cs hc
  cases hq : P.info? ty with
  | none => simp [hq] at hi
  | some i =>
    have hs : i.size = cs.length := by simpa [hq] using hi
    have hagg : (isAgg ty).run P w = .ok true w := by
      unfold isAgg
      rw [Sem.run_bind, run_underlying hu w]
      cases d <;> simp_all [rowD]
    simp [loadVar, Sem.run_bind, hagg, sizeOf, typeInfo, hq, hs, hl]
theorem wpList_load_at {P : Program} {ops : Array Oper} {rest : List Oper} {op : Oper} {a : Act} {w : World} {Q : Exit → Act → World → Prop} (hgd : op.guard = none) (ty : TypeId) (x : Operand) (ho : op.op = .load ty x)
    (ad : Addr) (hx : a.eval x = .pointer (some ad)) (cs : List Value) (d : TypeDesc) (hc : ∀ j v, cs[j]? = some v → w.cell? (ad.add j) = some v)
    (hu : P.underlying ty = some d) (hd : rowD d = true) (hi : (P.info? ty).map (·.size) = some cs.length)
    (h : wpList P ops Q rest (a.put op.dst (.agg cs.toArray)) w) : wpList P ops Q (op :: rest) a w :=
  wpList_plain hgd fun _ hK => by
    unfold Oper.wp execOp
    simp only [ho, hx, Instr.loadAt, Instr.sureAddr, Sem.run_bind, Sem.run_pure, Result.andThen_ok, run_loadVar_at w ad ty cs d hc hu hd hi]
    exact hK _ _ h
theorem wpList_indexAt {P : Program} {ops : Array Oper} {rest : List Oper} {o : Oper} {a : Act} {w : World} {Q : Exit → Act → World → Prop} (hgd : o.guard = none) (T : TypeId) (x y : Operand) (ho : o.op = .indexAddr T x y) (u v r : Value) (hx : a.eval x = u) (hy : a.eval y = v)
    (hi : (Instr.indexAt T u v).run P w = .ok r w) (h : wpList P ops Q rest (a.put o.dst r) w) : wpList P ops Q (o :: rest) a w := by
  refine wpList_plain hgd fun _ hK => ?_
  unfold Oper.wp execOp
  simp only [ho, Sem.run_bind, Sem.run_pure, Result.andThen_ok, hx, hy, hi]
  exact hK _ _ h
theorem v_size : (Try.prog.info? 37).map (·.size) = some 6 := by kernel_rfl
theorem s_size : (Try.prog.info? 29).map (·.size) = some 3 := by kernel_rfl
theorem v_len {cs : List Value} (h : cs.length = 6) : (Try.prog.info? 37).map (·.size) = some cs.length := by rw [h]; exact v_size
theorem s_len {cs : List Value} (h : cs.length = 3) : (Try.prog.info? 29).map (·.size) = some cs.length := by rw [h]; exact s_size
theorem v_info {cs : List Value} (h : cs.length = 6) : (Try.prog.info? 37).map (·.size) = some cs.toArray.size := by rw [List.size_toArray]; exact v_len h
theorem s_info {cs : List Value} (h : cs.length = 3) : (Try.prog.info? 29).map (·.size) = some cs.toArray.size := by rw [List.size_toArray]; exact s_len h
theorem ix_v (ad : Addr) (n cap k : Nat) (h : k < n) (w : World) : (Instr.indexAt 35 (.slice (some ad) n cap) (.int .i64 (k : Int))).run Try.prog w = .ok (.pointer (some (ad.add (k * 6)))) w := by
  have h1 : (0 : Int) ≤ (k : Int) := by omega
  have h2 : (k : Int) < (n : Int) := by omega
  go_simp
theorem ix_s (ad : Addr) (n cap k : Nat) (h : k < n) (w : World) : (Instr.indexAt 27 (.slice (some ad) n cap) (.int .i64 (k : Int))).run Try.prog w = .ok (.pointer (some (ad.add (k * 3)))) w := by
  have h1 : (0 : Int) ≤ (k : Int) := by omega
  have h2 : (k : Int) < (n : Int) := by omega
  go_simp
/-- A part's place, and what is there. -/
theorem Parts.at_ {w : World} {s n : Nat} {c : Option Addr} {css : Nat → List Value} (h : Parts w s c n css) {j : Nat} (hj : j < n) :
    ∃ ad, c = some ad ∧ (css j).length = s ∧ ∀ i u, (css j)[i]? = some u → w.cell? ((ad.add (j * s)).add i) = some u := by
  obtain ⟨ad, e, _, hc⟩ := h (by omega)
  exact ⟨ad, e, (hc j hj).1, fun i u hu => by rw [add_add]; exact (hc j hj).2 i u hu⟩

end Go.Proofs.Ytpegkalhjnldkaa
