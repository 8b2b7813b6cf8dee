/- Two arrays of integers held against each other: over any program. -/
import Derived.Test.YtpegkalhjnldkaaRowz
import Derived.ChangeKeysEq
import Derived.Laws.StructEq
import Derived.BigFrame
namespace Go.Proofs.Ytpegkalhjnldkaa
open Go.RowKit

section
variable {P : Program} (w : World)
theorem run_part_int {e : TypeId} {k : IntKind} (he : P.underlying e = some (.int k)) (xs : Array Value) (j : Nat) (v : Value) (h : xs[j]? = some v) : (part e xs j).run P w = .ok v w := by
  have hi : (isAgg e).run P w = .ok false w := by
    simp [isAgg, run_underlying he]
  simp [part, hi, h]

theorem run_eqItems_ints (d : Nat) {e : TypeId} {k : IntKind} (he : P.underlying e = some (.int k)) (xs ys : List Int) : ∀ (is : List Nat), (∀ i ∈ is, i < xs.length ∧ i < ys.length) →
    (Op.eqItems (d + 1) e 1 (xs.map (Value.int k)).toArray (ys.map (Value.int k)).toArray is).run P w = .ok (is.all fun i => xs[i]? == ys[i]?) w
  | [], _ => by simp [Op.eqItems]
  | i :: is, h => by
    obtain ⟨hx, hy⟩ := h i (by simp)
    have hr := run_eqItems_ints d he xs ys is (fun j hj => h j (by simp [hj]))
    have px := run_part_int w he (xs.map (Value.int k)).toArray i (.int k xs[i]) (by simp [hx])
    have py := run_part_int w he (ys.map (Value.int k)).toArray i (.int k ys[i]) (by simp [hy])
    have pe := run_equalIn_int w d e k k xs[i] ys[i] he
    simp only [Op.eqItems, Nat.mul_one, Sem.run_bind, px, py, pe, Result.andThen_ok, List.all_cons]
    rw [List.getElem?_eq_getElem hx, List.getElem?_eq_getElem hy]
    cases hb : (xs[i] == ys[i])
    · simp_all
    · simp_all

theorem run_equalIn_ints (d : Nat) {t e : TypeId} {n : Nat} {i : TypeInfo} {k : IntKind} (hu : P.underlying t = some (.array n e)) (hi : P.info? e = some i) (he : P.underlying e = some (.int k)) (hc : P.cellsOf e = 1)
    (xs ys : List Int) (hx : xs.length = n) (hy : ys.length = n) :
    (Op.equalIn (d + 2) t (.agg (xs.map (Value.int k)).toArray) (.agg (ys.map (Value.int k)).toArray)).run P w = .ok (decide (xs = ys)) w := by
  rw [show d + 2 = (d + 1) + 1 from rfl, run_equalIn_array w (d + 1) _ _ hu hi, hc, run_eqItems_ints w d he xs ys _ (fun i hi => by have := List.mem_range.1 hi; omega)]
  congr 1
  rw [Bool.eq_iff_iff, List.all_eq_true, decide_eq_true_iff]
  constructor
  · intro h
    refine List.ext_getElem? fun i => ?_
    by_cases hin : i < n
    · exact eq_of_beq (h i (List.mem_range.2 hin))
    · rw [List.getElem?_eq_none (by omega), List.getElem?_eq_none (by omega)]
  · rintro rfl i _
    simp

/-- Two rows of naturals. -/
theorem run_eql_nats {t e : TypeId} {n : Nat} {i : TypeInfo} {k : IntKind} (hu : P.underlying t = some (.array n e)) (hi : P.info? e = some i) (he : P.underlying e = some (.int k)) (hc : P.cellsOf e = 1)
    (xs ys : List Nat) (hx : xs.length = n) (hy : ys.length = n) :
    (binOp .eql t (.agg (xs.map fun x => Value.int k ((x : Nat) : Int)).toArray) (.agg (ys.map fun x => Value.int k ((x : Nat) : Int)).toArray)).run P w = .ok (.bool (decide (xs = ys))) w := by
  have h := run_equalIn_ints w 9998 hu hi he hc (xs.map fun x : Nat => (x : Int)) (ys.map fun x : Nat => (x : Int)) (by simpa using hx) (by simpa using hy)
  rw [List.map_map, List.map_map] at h
  rw [run_eql_struct]
  have e1 : (Op.equalIn 10000 t (.agg (xs.map fun x => Value.int k ((x : Nat) : Int)).toArray) (.agg (ys.map fun x => Value.int k ((x : Nat) : Int)).toArray)).run P w = .ok (decide (xs.map (fun x : Nat => (x : Int)) = ys.map (fun x : Nat => (x : Int)))) w := h
  rw [e1]
  simp only [Result.andThen_ok]
  congr 2
  rw [Bool.eq_iff_iff, decide_eq_true_iff, decide_eq_true_iff]
  constructor
  · intro h
    exact (List.map_inj_right (fun a b hab => by have : (a : Int) = b := hab; omega)).1 h
  · rintro rfl; rfl
theorem run_neq_nats {t e : TypeId} {n : Nat} {i : TypeInfo} {k : IntKind} (hu : P.underlying t = some (.array n e)) (hi : P.info? e = some i) (he : P.underlying e = some (.int k)) (hc : P.cellsOf e = 1)
    (xs ys : List Nat) (hx : xs.length = n) (hy : ys.length = n) :
    (binOp .neq t (.agg (xs.map fun x => Value.int k ((x : Nat) : Int)).toArray) (.agg (ys.map fun x => Value.int k ((x : Nat) : Int)).toArray)).run P w = .ok (.bool (!decide (xs = ys))) w := by
  have h := run_eql_nats w hu hi he hc xs ys hx hy
  rw [run_eql_struct] at h
  rw [run_neq_struct]
  cases hr : (Op.equalIn 10000 t (.agg (xs.map fun x => Value.int k ((x : Nat) : Int)).toArray) (.agg (ys.map fun x => Value.int k ((x : Nat) : Int)).toArray)).run P w with
  | ok b w' =>
    rw [hr] at h
    simp only [Result.andThen_ok] at h ⊢
    injection h with h1 h2
    injection h1 with h1
    rw [h1, h2]
  | halt x w' => rw [hr] at h; simp [Result.andThen] at h
/-- A comparison, by its two runs. -/
theorem wpList_binop {ops : Array Oper} {rest : List Oper} {o : Oper} {a : Act} {Q : Exit → Act → World → Prop} (op : BinOp) (T T2 : TypeId) (x y : Operand) (ho : o.op = .binOp op T x y T2) (hw : Region.wanted o (yielded ops a.tmps) = true)
    (u v r : Value) (hx : a.eval x = u) (hy : a.eval y = v) (hg : (eqGuard op T x y u v).run P w = .ok () w) (hb : (binOp op T u v).run P w = .ok r w) (h : wpList P ops Q rest (a.put o.dst r) w) : wpList P ops Q (o :: rest) a w := by
  refine BigFrame.wpList_want hw fun K hK => ?_
  unfold Oper.wp execOp
  simp only [ho, Sem.run_bind, Sem.run_pure, Result.andThen_ok, hx, hy, hg, hb]
  exact hK _ _ h
theorem Tabs_map (K : IntKind) (f : Nat → Nat) (n : Nat) : Tabs K f n = ((List.range n).map f).map fun x => Value.int K ((x : Nat) : Int) := by
  simp [Tabs]
end

end Go.Proofs.Ytpegkalhjnldkaa
