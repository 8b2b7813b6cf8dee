/- slices.Backward at a row of numbers: what its function value hands to a loop's body. -/
import Derived.Test.YtpegkalhjnldkaaDb
import Derived.RangeFuncBox
import Derived.RangeFuncLeaves
import Derived.Shelf.Abstract
import Derived.OwnWalkIn
import Derived.TacticsInMore
import Derived.LoopNIn
import Derived.LoopIn
import Derived.Maps.OwnIn
import Derived.Maps.OwnRows
namespace Go.Proofs.Ytpegkalhjnldkaa
set_option linter.unusedSimpArgs false
set_option linter.unusedVariables false
open Go.RowKit Go.Shelf
attribute [local go_sem] Oper.semAt_some

/-- What has come when k rounds are over: the last places first. -/
def upto {α : Type} (f : Nat → α) (k : Nat) : List α := (List.range k).map f
theorem upto_succ {α : Type} (f : Nat → α) (k : Nat) : upto f (k + 1) = upto f k ++ [f k] := by simp [upto, List.range_succ]
theorem upto_length {α : Type} (f : Nat → α) (k : Nat) : (upto f k).length = k := by simp [upto]
/-- What lay below n₀ lies as it lay, and so does the box. -/
def KpB (n₀ Bs : Nat) (W W' : World) : Prop := Below n₀ W W' ∧ W'.cell? ⟨Bs, 0, none⟩ = W.cell? ⟨Bs, 0, none⟩
theorem KpB.refl (n₀ Bs : Nat) (W : World) : KpB n₀ Bs W W := ⟨Below.refl _ _, rfl⟩
theorem KpB.trans {n₀ Bs : Nat} {A B C : World} (h : KpB n₀ Bs A B) (k : KpB n₀ Bs B C) : KpB n₀ Bs A C := ⟨h.1.trans k.1, k.2.trans h.2⟩
theorem KpB.put {n₀ Bs : Nat} {w : World} (hn : n₀ ≤ w.heap.size) (hB : Bs < w.heap.size) (W : World) (l : Nat) (o o' : Obj) (hl : w.heap.size ≤ l) (h : W.heap[l]? = some o) (h1 : o.isCells = false) (h2 : o.isWalk = false) : KpB n₀ Bs W (W.putObj l o') :=
  ⟨belowK_b hn W l o o' hl h h1 h2, (belowK_b (w := w) (Nat.le_refl _) W l o o' hl h h1 h2).cell (p := ⟨Bs, 0, none⟩) hB⟩
/-- The k-th that comes. -/
def bk (n k : Nat) : Fin 64 := Fin.ofNat 64 (n - 1 - k)
theorem bk_val {n k : Nat} (h : n ≤ 60) : (bk n k).1 = n - 1 - k := Nat.mod_eq_of_lt (by omega)
/-- What is handed over at a place. -/
def at_ (a : List Int) (x : Fin 64) : Array Value := #[.int .i64 (x.1 : Int), .int .u64 (a[x.1]?.getD 0)]

set_option maxRecDepth 100000 in
set_option maxHeartbeats 2000000 in
theorem back1_in (F : Fence) (n : Nat) (h8 : F.fn 15) (hro : F.round = none) (hn : 1 ≤ n) (l Bs n₀ : Nat) (A : Option Addr) (len cap : Nat) (a : List Int) (hsm : len ≤ 60) (w0 : World) (hA : RdU w0 A len a) (hlt : w0.heap.size ≤ n₀) (J Jx : List (Fin 64) → World → Prop)
    (hY : ∀ pre x W, J pre W → pre.length < len → YieldAt F (n - 1) Try.prog l (at_ a x) W fun e W' =>
      (e = .returned (.bool true) ∧ J (pre ++ [x]) W' ∧ KpB n₀ Bs W W') ∨ (e = .returned (.bool false) ∧ Jx (pre ++ [x]) W'))
    (W : World) (hw : Below w0.heap.size w0 W) (hBs : W.cell? ⟨Bs, 0, none⟩ = some (.slice A len cap)) (h0 : J [] W) :
    CallsIn F n Try.prog 15 #[.func (.yield l) #[] #[], .pointer (some ⟨Bs, 0, none⟩)] W fun e W' => (∃ v, e = .returned v) ∧
      ((∃ ys, ys = upto (bk len) len ∧ J ys W') ∨ (∃ pre, (∃ k, k ≤ len ∧ pre = upto (bk len) k) ∧ Jx pre W')) := by
  refine callsIn_of_wp Try.func15 rfl h8 ?_ hro
  simp only [Try.ntmps15, List.size_toArray, List.length_cons, List.length_nil, Nat.reduceAdd, Nat.reduceSub, Array.replicate_succ, Array.replicate_zero, List.push_toArray, List.append_toArray, List.nil_append, List.cons_append]
  have hz0 : IntKind.i64.wrap ((len : Int) - 1) = (len : Int) - 1 := by rw [IntKind.wrap_i64]; omega
  gi_wp2
  gi_loopw [3] (fun i wr => ∃ (k : Nat) (z : Int), k ≤ len ∧ i = .int .i64 z ∧ z + 1 + (k : Int) = (len : Int) ∧ J (upto (bk len) k) wr ∧ KpB n₀ Bs W wr)
    (fun i _ => (intOf i + 1).toNat)
  case atStart => exact ⟨0, (len : Int) - 1, Nat.zero_le _, by first | rfl | rw [hz0], by omega, h0, KpB.refl _ _ _⟩
  case round =>
    obtain ⟨k, z, hk, rfl, hz, hJs, hnx⟩ := hrel
    have hbx : wr.cell? ⟨Bs, 0, none⟩ = some (.slice A len cap) := hnx.2.trans hBs
    by_cases hlt2 : k < len
    · obtain ⟨b, off, rfl, hbl, hc⟩ := hA.2 (by omega)
      obtain rfl : z = ((len - 1 - k : Nat) : Int) := by omega
      have hx : a[len - 1 - k]? = some (a[len - 1 - k]?.getD 0) := by
        have : len - 1 - k < a.length := by rw [hA.1]; omega
        rw [List.getElem?_eq_getElem this]; rfl
      have hcx : wr.cell? ⟨b, off + (len - 1 - k), none⟩ = some (.int .u64 (a[len - 1 - k]?.getD 0)) :=
        (hnx.1.cell (p := ⟨b, off + (len - 1 - k), none⟩) (by show b < n₀; omega)).trans ((hw.cell (p := ⟨b, off + (len - 1 - k), none⟩) hbl).trans (hc _ _ hx))
      have hi0 : (0 : Int) ≤ ((len - 1 - k : Nat) : Int) := by omega
      have hi1 : ((len - 1 - k : Nat) : Int) < (len : Int) := by omega
      have hz1 : IntKind.i64.wrap (((len - 1 - k : Nat) : Int) - 1) = ((len - 1 - k : Nat) : Int) - 1 := by rw [IntKind.wrap_i64]; omega
      obtain ⟨fn, tmps, assign, body, hy, hR⟩ := hY _ (bk len k) wr hJs (by rw [upto_length]; exact hlt2)
      simp only [at_, bk_val hsm] at hy
      clear hx hc
      generalize hq : len - 1 - k = q at *
      gi_wp2
      refine hR.mono ?_
      rintro e W3 (⟨rfl, hJ3, hk3⟩ | ⟨rfl, hJx3⟩)
      · gi_wp2
        go_roundw
        case rel => exact ⟨k + 1, (q : Int) - 1, by omega, by first | rfl | rw [hz1], by omega, by rw [upto_succ]; exact hJ3, hnx.trans hk3⟩
        case measure => simp [intOf] <;> omega
      · gi_wp2
        refine bodyPost_ret (results_none rfl _ _ _) rfl ?_
        exact ⟨⟨_, rfl⟩, .inr ⟨_, ⟨k + 1, by omega, (upto_succ _ _).symm⟩, hJx3⟩⟩
    · obtain rfl : k = len := by omega
      obtain rfl : z = -1 := by omega
      gi_wp2
      go_end0
      exact ⟨⟨_, rfl⟩, .inl ⟨_, rfl, hJs⟩⟩

set_option maxRecDepth 100000 in
set_option maxHeartbeats 1000000 in
/-- slices.Backward: its argument is boxed; the function value captures the box. -/
theorem back_in (F : Fence) (n : Nat) (h6 : F.fn 8) (hro : F.round = none) (A : Option Addr) (len cap : Nat) (w : World) :
    CallsIn F n Try.prog 8 #[.slice A len cap] w fun e w' => e = .returned (.func (.func 15) #[] #[.pointer (some ⟨w.heap.size, 0, none⟩)]) ∧ w' = w.alloc (.cells #[.slice A len cap] 22) := by
  refine callsIn_of_wp Try.func8 rfl h6 ?_ hro
  simp only [Try.ntmps8, List.size_toArray, List.length_cons, List.length_nil, Nat.reduceAdd, Nat.reduceSub, Array.replicate_succ, Array.replicate_zero, List.push_toArray, List.append_toArray, List.nil_append, List.cons_append]
  gi_wp2
  go_ret
  exact ⟨rfl, rfl⟩

theorem back_stops (F : Fence) (n : Nat) (h8 : F.fn 15) (hro : F.round = none) (hn : 1 ≤ n) (Bs n₀ : Nat) (A : Option Addr) (len cap : Nat) (a : List Int) (hsm : len ≤ 60) (w0 w : World) (hA : RdU w0 A len a) (hlt : w0.heap.size ≤ n₀) (hw : Below w0.heap.size w0 w)
    (hB : Bs < w.heap.size) (hn₀ : n₀ ≤ w.heap.size) (hc : w.cell? ⟨Bs, 0, none⟩ = some (.slice A len cap)) :
    SeqStopsK F n Try.prog 15 #[.pointer (some ⟨Bs, 0, none⟩)] (at_ a) (KpB n₀ Bs) (fun ys => ys = upto (bk len) len)
      (fun pre => ∃ k, k ≤ len ∧ pre = upto (bk len) k) len w := fun l J Jx W hW _ _ hY h0 => by
  exact back1_in F n h8 hro hn l Bs n₀ A len cap a hsm w0 hA hlt J Jx hY W (hw.trans (hW.mono (Nat.le_trans hlt hn₀))) ((hW.cell (p := ⟨Bs, 0, none⟩) hB).trans hc) h0

end Go.Proofs.Ytpegkalhjnldkaa
