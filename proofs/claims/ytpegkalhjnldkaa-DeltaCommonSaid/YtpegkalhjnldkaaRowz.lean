/- Arrays of integers as rows of cells: over any program. -/
import Derived.Test.YtpegkalhjnldkaaBase
import Derived.Laws.Rows
import Derived.Laws.Tables
import Derived.Laws.CopyOwn
import Derived.Below
namespace Go.Proofs.Ytpegkalhjnldkaa
open Go.RowKit

theorem below_drewN {B : Nat} {a w : World} (h : Below B a w) (n : Nat) : Below B a (w.drewN n) := ⟨h.os, h.tape, h.output, h.size, h.block⟩
/-- Block g is this row. -/
def Row (w : World) (g : Nat) (T : TypeId) (l : List Value) : Prop := w.heap[g]? = some (.cells l.toArray T (0, 0))
section
variable {w w' : World} {g : Nat} {T : TypeId} {l : List Value}
theorem Row.lt (h : Row w g T l) : g < w.heap.size := (Array.getElem?_eq_some_iff.1 h).1
theorem Row.cell (h : Row w g T l) {k : Nat} {v : Value} (hk : l[k]? = some v) : w.cell? ⟨g, k, none⟩ = some v := by
  rw [cell_of_row w g k _ _ _ h, List.getElem?_toArray]; exact hk
theorem Row.free (h : Row w g T l) (k : Nat) : w.frozen? ⟨g, k, none⟩ = false := frozen_of_row w g k _ _ h
theorem Row.set (h : Row w g T l) (k : Nat) (v : Value) : Row (w.setCell ⟨g, k, none⟩ v) g T (l.set k v) := by
  unfold Row at h ⊢
  rw [heap_setCell_same w g _ _ _ _ h, List.setIfInBounds_toArray]
theorem Row.below {B : Nat} (h : Row w g T l) (hb : Below B w w') (hg : g < B) : Row w' g T l := (hb.block g hg).trans h
theorem Row.belowAll (h : Row w g T l) (hb : Below w.heap.size w w') : Row w' g T l := h.below hb h.lt
theorem Row.drewN (h : Row w g T l) (n : Nat) : Row (w.drewN n) g T l := h
theorem Row.only {S : Nat → Prop} (h : Row w g T l) (ho : Only S w w') (hs : ¬ S g) : Row w' g T l := (ho.block g h.lt hs).trans h
theorem Row.rd (h : Row w g T l) {n : Nat} (hn : l.length = n) : Rd w (fun k => k = g) (some ⟨g, 0, none⟩) n l :=
  ⟨hn, fun _ => ⟨_, rfl, rfl, h.lt, fun j u hu => by
    have e : (⟨g, 0, none⟩ : Addr).add j = ⟨g, j, none⟩ := by unfold Addr.add; split <;> simp_all
    rw [e]; exact h.cell hu⟩⟩
theorem Row.new (w : World) (l : List Value) (T : TypeId) : Row (w.alloc (.cells l.toArray T)) w.heap.size T l := heap_alloc_new _ _
theorem Row.alloc (h : Row w g T l) (o : Obj) : Row (w.alloc o) g T l := (Below.heap_alloc _ _ _ h.lt).trans h
theorem Row.setCell (h : Row w g T l) {p : Addr} (hp : g ≠ p.block) (v : Value) : Row (w.setCell p v) g T l := (Below.heap_setCell _ _ _ _ hp).trans h
end

/-- A row of integers that is filled from its first cell on; whole. -/
def Tab (K : IntKind) (f : Nat → Nat) (n k : Nat) : List Value := (List.range n).map fun i => .int K ((if i < k then f i else 0 : Nat) : Int)
def Tabs (K : IntKind) (f : Nat → Nat) (n : Nat) : List Value := (List.range n).map fun i => .int K ((f i : Nat) : Int)
theorem Tab_length (K : IntKind) (f : Nat → Nat) (n k : Nat) : (Tab K f n k).length = n := by simp [Tab]
theorem Tabs_length (K : IntKind) (f : Nat → Nat) (n : Nat) : (Tabs K f n).length = n := by simp [Tabs]
theorem Tab_get (K : IntKind) (f : Nat → Nat) (n k : Nat) {j : Nat} (hj : j < n) : (Tab K f n k)[j]? = some (.int K ((if j < k then f j else 0 : Nat) : Int)) := by simp [Tab, hj]
theorem Tabs_get (K : IntKind) (f : Nat → Nat) (n : Nat) {j : Nat} (hj : j < n) : (Tabs K f n)[j]? = some (.int K ((f j : Nat) : Int)) := by simp [Tabs, hj]
theorem Tab_done (K : IntKind) (f : Nat → Nat) (n : Nat) : Tab K f n n = Tabs K f n := by
  unfold Tab Tabs
  refine List.map_congr_left fun i hi => ?_
  rw [if_pos (List.mem_range.1 hi)]
theorem Tab_zero (K : IntKind) (f : Nat → Nat) (n : Nat) : Tab K f n 0 = List.replicate n (.int K 0) := by
  unfold Tab
  refine List.ext_getElem? fun i => ?_
  by_cases h : i < n <;> simp [h]
theorem Tab_set (K : IntKind) (f : Nat → Nat) (n : Nat) {k : Nat} (hk : k < n) : (Tab K f n k).set k (.int K ((f k : Nat) : Int)) = Tab K f n (k + 1) := by
  refine List.ext_getElem? fun j => ?_
  by_cases hj : j < n
  · rw [List.getElem?_set, Tab_get _ _ _ _ hj, Tab_get _ _ _ _ hj]
    by_cases e : k = j
    · subst e; rw [if_pos rfl, if_pos (by rw [Tab_length]; exact hk), if_pos (by omega)]
    · rw [if_neg e]
      by_cases h2 : j < k
      · rw [if_pos h2, if_pos (by omega)]
      · rw [if_neg h2, if_neg (by omega)]
  · rw [List.getElem?_eq_none (by rw [List.length_set, Tab_length]; omega), List.getElem?_eq_none (by rw [Tab_length]; omega)]
theorem Tabs_one (K : IntKind) (f : Nat → Nat) (n : Nat) : (Tabs K f n).toArray.all (·.oneCell') = true := by
  rw [List.all_toArray, List.all_eq_true]
  intro v hv
  simp only [Tabs, List.mem_map] at hv
  obtain ⟨i, _, rfl⟩ := hv
  rfl
theorem Tabs_congr (K : IntKind) {f g : Nat → Nat} {n : Nat} (h : ∀ i, i < n → f i = g i) : Tabs K f n = Tabs K g n := by
  unfold Tabs
  refine List.map_congr_left fun i hi => ?_
  rw [h i (List.mem_range.1 hi)]

end Go.Proofs.Ytpegkalhjnldkaa
