/- delta.Common: the row of ends, and how it is written. -/
import Derived.Test.YtpegkalhjnldkaaDi
namespace Go.Proofs.Ytpegkalhjnldkaa
set_option maxRecDepth 100000
set_option linter.unusedSimpArgs false
set_option linter.unusedVariables false
open Go.RowKit Go.Shelf

theorem len_le : ∀ (E : List Nat) (lo n : Nat), E.Pairwise (· < ·) → (∀ x ∈ E, lo ≤ x ∧ x < n) → E.length ≤ n - lo
  | [], _, _, _, _ => by simp
  | x :: E, lo, n, h, hx => by
    have h1 := hx x (by simp)
    have h2 := List.pairwise_cons.1 h
    have ih := len_le E (x + 1) n h2.2 (fun y hy => ⟨h2.1 y hy, (hx y (by simp [hy])).2⟩)
    rw [List.length_cons]
    omega
theorem own_slE {B : Nat} {w : World} {e : TypeId} {v : Value} {n : Nat} {xs : List Value} (h : w.ownsRow B e 1 v n xs) : ∃ p c, v = .slice p n c := by
  rcases h.2 with ⟨rfl, h0⟩ | ⟨g, cap, cur, rfl, _⟩
  · subst h0; exact ⟨_, _, rfl⟩
  · exact ⟨_, _, rfl⟩
theorem own_atE {B : Nat} {w : World} {e : TypeId} {v : Value} {n : Nat} {xs : List Value} (h : w.ownsRow B e 1 v n xs) (hn : 0 < n) : ∃ g cap, v = .slice (some ⟨g, 0, none⟩) n cap ∧ B ≤ g ∧ g < w.heap.size ∧ ∀ k u, xs[k]? = some u → w.cell? ⟨g, k, none⟩ = some u ∧ w.frozen? ⟨g, k, none⟩ = false := by
  rcases h.2 with ⟨rfl, h0⟩ | ⟨g, cap, cur, rfl, hb, hrow, hnc, hcap, hsz, htk⟩
  · omega
  · refine ⟨g, cap, rfl, hb, (Array.getElem?_eq_some_iff.1 hrow).1, fun k u hu => ⟨?_, frozen_of_row _ _ _ _ _ hrow⟩⟩
    rw [cell_of_row _ _ _ _ _ _ hrow]
    have hk : k < n * 1 := by
      have := (List.getElem?_eq_some_iff.1 hu).1
      rw [h.1] at this
      exact this
    rw [← htk, List.getElem?_take_of_lt hk, Array.getElem?_toList] at hu
    exact hu
theorem own_setE {B : Nat} {w : World} {e : TypeId} {g cap n : Nat} {xs : List Value} (h : w.ownsRow B e 1 (.slice (some ⟨g, 0, none⟩) n cap) n xs) (k : Nat) (u : Value) : (w.setCell ⟨g, k, none⟩ u).ownsRow B e 1 (.slice (some ⟨g, 0, none⟩) n cap) n (xs.set k u) := by
  rcases h.2 with ⟨h0, _⟩ | ⟨g', cap', cur, h0, hb, hrow, hnc, hcap, hsz, htk⟩
  · cases h0
  · cases h0
    refine ⟨by rw [List.length_set]; exact h.1, .inr ⟨g, cap, cur.setIfInBounds k u, rfl, hb, ?_, hnc, hcap, by simpa using hsz, ?_⟩⟩
    · rw [heap_setCell_same w g _ _ _ _ hrow]
    · rw [Array.toList_setIfInBounds, List.take_set, htk]
theorem put_last {E : List Nat} {i : Nat} (h : Lcs.cnt E i = E.length) : Lcs.put E i = E ++ [i] := by
  unfold Lcs.put
  rw [h, List.take_length, List.drop_eq_nil_of_le (by omega), List.append_nil]
theorem put_in {E : List Nat} {i : Nat} (h : Lcs.cnt E i < E.length) : Lcs.put E i = E.set (Lcs.cnt E i) i := by
  unfold Lcs.put
  rw [List.set_eq_take_append_cons_drop, if_pos h]
  simp
theorem wpList_look_run {P : Program} {ops : Array Oper} {rest : List Oper} {o : Oper} {a : Act} {w : World} {Q : Exit → Act → World → Prop} (hg : o.guard = none) (t : TypeId) (m x : Operand) (hop : o.op = Op.lookup t m x false) (u key v : Value) (hm : a.eval m = u) (hx : a.eval x = key)
    (hr : (Instr.lookup t u key false).run P w = .ok v w) (h : wpList P ops Q rest (a.put o.dst v) w) : wpList P ops Q (o :: rest) a w := by
  refine wpList_plain hg fun K hK => ?_
  unfold Oper.wp
  simp [execOp, hop, hm, hx, hr, Result.andThen]
  exact hK _ _ h
theorem plc_lt (a : List Int) (y : Int) : ∀ k, k ≤ a.length → ∀ i ∈ Lcs.plc a y k, i < a.length
  | 0, _, i, h => by simp [Lcs.plc] at h
  | k + 1, hk, i, h => by
    rw [Lcs.plc, List.mem_append] at h
    rcases h with h | h
    · exact plc_lt a y k (by omega) i h
    · split at h
      · simp at h; omega
      · simp at h

end Go.Proofs.Ytpegkalhjnldkaa
