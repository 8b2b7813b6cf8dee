/- The rules of numbers modulo the order, in the answers' own spelling: plain arithmetic; what a law of three numbers holds in its variables. -/
import Derived.Test.YtklbcpaoccdmeaaDoorLaid
import Derived.Laws.BitsAllLaws
import Derived.Deep.CutRange
import Derived.Deep.CutBlock
import Derived.RegionTactic
import Derived.Lib.Hide
import Derived.IntWalk
namespace Go.Proofs.YtklbcpaoccdmeaaDoor
set_option maxRecDepth 100000
open Go.RowKit

theorem r_lt (x : Nat) : x % qq < 256 ^ 32 := by rw [p32]; exact Nat.lt_trans (Nat.mod_lt _ qq_pos) qq_lt
theorem r_below (x : Nat) : x % qq < qq := Nat.mod_lt _ qq_pos
/-- What MulAdd, Sum, Neg tell: names that a walk's simp leaves alone. -/
def mulq (A B C : Nat) : Nat := (A * B + C) % qq
def sumq (l : List Nat) : Nat := l.sum % qq
def negq (A : Nat) : Nat := (qq - A % qq) % qq
theorem mulq_lt (A B C : Nat) : mulq A B C < 256 ^ 32 := r_lt _
theorem mulq_below (A B C : Nat) : mulq A B C < qq := r_below _
theorem sumq_lt (l : List Nat) : sumq l < 256 ^ 32 := r_lt _
theorem negq_lt (A : Nat) : negq A < 256 ^ 32 := r_lt _
theorem negq_below (A : Nat) : negq A < qq := r_below _
theorem muladd_q (A B C : Nat) (hA : A < 256 ^ 32) (hB : B < 256 ^ 32) (hC : C < 256 ^ 32) (w : World) (hq : Qt w) :
    Calls Tryd.prog 13 #[.agg (By A 32).toArray, .agg (By B 32).toArray, .agg (By C 32).toArray] w fun e w' => e = .returned (.agg (By (mulq A B C) 32).toArray) ∧ Below w.heap.size w w' := muladd_fn A B C hA hB hC w hq
theorem sum_q (l : List Nat) (b o n cap : Nat) (w : World) (hln : l.length = n) (hl : ∀ N ∈ l, N < 256 ^ 32) (hn : n ≤ 9223372036854775807) (hb : b < w.heap.size) (ha : Arrs w b o l) (hq : Qt w) :
    Calls Tryd.prog 16 #[.slice (some ⟨b, o, none⟩) n cap] w fun e w' => e = .returned (.agg (By (sumq l) 32).toArray) ∧ Below w.heap.size w w' := sum_fn l b o n cap w hln hl hn hb ha hq
theorem neg_q (A : Nat) (hA : A < 256 ^ 32) (w : World) (hq : Qt w) :
    Calls Tryd.prog 15 #[.agg (By A 32).toArray] w fun e w' => e = .returned (.agg (By (negq A) 32).toArray) ∧ Below w.heap.size w w' := neg_fn A hA w hq
theorem r1 (A B : Nat) : mulq A B 0 = mulq B A 0 := by unfold mulq; rw [Nat.mul_comm]
theorem r2 (A B C : Nat) : mulq (mulq A B 0) C 0 = mulq A (mulq B C 0) 0 := by
  unfold mulq
  simp only [Nat.add_zero]
  rw [Nat.mod_mul_mod, Nat.mul_mod_mod, Nat.mul_assoc]
theorem r3 (A B C : Nat) : sumq [A, B, C] = sumq [C, sumq [B, A]] := by
  unfold sumq
  simp only [List.sum_cons, List.sum_nil, Nat.add_zero]
  rw [Nat.add_mod_mod]
  congr 1
  omega
theorem r4 (A B C : Nat) : mulq A (sumq [B, C]) 0 = mulq A B (mulq A C 0) := by
  unfold sumq mulq
  simp only [List.sum_cons, List.sum_nil, Nat.add_zero]
  rw [Nat.mul_mod_mod, Nat.add_mod_mod, Nat.mul_add]
theorem r5 (A : Nat) : sumq [A, negq A] = 0 := by
  unfold sumq negq
  simp only [List.sum_cons, List.sum_nil, Nat.add_zero]
  rw [Nat.add_mod_mod, ← Nat.mod_add_mod]
  have h := Nat.mod_lt A qq_pos
  rw [show A % qq + (qq - A % qq) = qq by omega, Nat.mod_self]
theorem r6 (A : Nat) : negq (negq A) = mulq 1 A 0 := by
  unfold mulq negq
  rw [Nat.mod_mod, Nat.one_mul, Nat.add_zero]
  have h := Nat.mod_lt A qq_pos
  by_cases h0 : A % qq = 0
  · rw [h0, Nat.sub_zero, Nat.mod_self, Nat.sub_zero, Nat.mod_self]
  · rw [Nat.mod_eq_of_lt (a := qq - A % qq) (by omega), show qq - (qq - A % qq) = A % qq by omega, Nat.mod_mod]

/-- Three numbers, 0 and 1 in blocks from B on; the order. -/
structure Pk (w : World) (B X Y Z : Nat) : Prop where
  a : Row w B 23 (By X 32)
  b : Row w (B + 1) 23 (By Y 32)
  c : Row w (B + 1 + 1) 23 (By Z 32)
  z : Row w (B + 1 + 1 + 1) 23 (By 0 32)
  o : Row w (B + 1 + 1 + 1 + 1) 23 (By 1 32)
  q : Qt w
theorem Pk.below {w w' : World} {B X Y Z : Nat} (h : Pk w B X Y Z) (hb : Below w.heap.size w w') : Pk w' B X Y Z :=
  ⟨h.a.belowAll hb, h.b.belowAll hb, h.c.belowAll hb, h.z.belowAll hb, h.o.belowAll hb, h.q.below hb h.q.lt⟩
theorem By_1 : By 1 32 = .int .u8 1 :: List.replicate 31 (.int .u8 0) := by kernel_rfl
theorem Row.new4 (w : World) (X Y Z V : Obj) (l : List Value) (T : TypeId) : Row (((((w.alloc X).alloc Y).alloc Z).alloc V).alloc (.cells l.toArray T)) (w.heap.size + 1 + 1 + 1 + 1) T l := by
  have h := Row.new ((((w.alloc X).alloc Y).alloc Z).alloc V) l T
  rwa [show ((((w.alloc X).alloc Y).alloc Z).alloc V).heap.size = w.heap.size + 1 + 1 + 1 + 1 by simp] at h
theorem Below.alloc5 (w : World) (X Y Z V U : Obj) : Below w.heap.size w (((((w.alloc X).alloc Y).alloc Z).alloc V).alloc U) := (Below.alloc4 w X Y Z V).alloc (by simp; omega) _

end Go.Proofs.YtklbcpaoccdmeaaDoor
