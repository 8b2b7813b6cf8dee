/- A value's bytes, as a list; how many there may be. Arrays of integers as rows of cells: over any program. Walking over trees: a place in a slice of rows, a row loaded from any place; the program's and the document's depth. Regions that draw their order, whose operations read, reckon, or call what leaves memory that was there as it was: whatever the order, each operation gives what it gives in the text's order. Over any program. Two arrays of integers held against each other: over any program. An element of an array of integers that is held as a value: over any program. -/
import Derived.Test.YtkjhmplnamaoaaaGreatDoorMg1
import Derived.OpenShut
import Derived.Laws.Rows
import Derived.Laws.Tables
import Derived.Laws.CopyOwn
import Derived.Below
import Derived.Deep.Slices
import Derived.Laws.BitsAllLaws
import Derived.Deep.CutRange
import Derived.Deep.CutBlock
import Derived.RegionTactic
import Derived.IntWalk
import Derived.OrdersHeld
import Derived.Deep.RegionHeld
import Derived.ChangeKeysEq
import Derived.Laws.StructEq
import Derived.BigFrame
namespace Go.Proofs.YtkjhmplnamaoaaaGreatDoor
section
set_option maxRecDepth 100000

def iB (l : List Int) (i : Nat) : List UInt8 := enc (l.getD i 0).toNat
def Vt.bytes : Vt → List UInt8
  | .nul => []
  | .mk k n s names ids _ parts => UInt8.ofNat k.toNat :: (if k = 1 then [UInt8.ofNat n.toNat] else if k = 2 then enc (zig n) else if k = 3 then wB s else if k = 4 then wB s
    else if k = 5 then enc names.length ++ (List.range names.length).flatMap (fun i => wB (nth names i) ++ (parts i).bytes)
    else if k = 6 then enc ids.length ++ (List.range ids.length).flatMap (fun i => iB ids i ++ (parts i).bytes) else [])
/-- Its numbers lie within their kinds. -/
def Vt.inn : Vt → Prop
  | .nul => True
  | .mk _ n _ _ ids len parts => (Lit.int .i64 n).wf = true ∧ (∀ x ∈ ids, (Lit.int .u64 x).wf = true) ∧ ∀ i, i < len → (parts i).inn
theorem VAt.inn {w : World} : ∀ {v : Vt} {cs : List Value}, VAt w v cs → v.inn := by
  intro v cs h
  induction h with
  | mk css hk hn hs h1 h1c hss h2 h2c hi h3 h3c _ ih => exact ⟨hn, hi, ih⟩
theorem wf_i64_le {n : Int} (h : (Lit.int .i64 n).wf = true) : -9223372036854775808 ≤ n ∧ n ≤ 9223372036854775807 := bounds_i64 h
theorem wf_u64_lt {n : Int} (h : (Lit.int .u64 n).wf = true) : 0 ≤ n ∧ n < 18446744073709551616 := by
  have := bounds_u64 h
  omega
def vbnd : Nat → Nat
  | 0 => 0
  | n + 1 => 1000 + 12 * vbnd n
theorem vbnd_mono : ∀ {n m : Nat}, n ≤ m → vbnd n ≤ vbnd m
  | 0, _, _ => Nat.zero_le _
  | n + 1, 0, h => absurd h (by omega)
  | n + 1, m + 1, h => by
    have := vbnd_mono (n := n) (m := m) (by omega)
    unfold vbnd
    omega
theorem vbnd_all {n : Nat} (h : n ≤ 6) : vbnd n ≤ 400000000 := Nat.le_trans (vbnd_mono h) (by decide)
theorem headV_cases {k n : Int} {s : ByteArray} {names : List ByteArray} {ids : List Int} {len : Nat} (h : headV k n s names ids len = true) :
    (k = 1 ∧ (n = 0 ∨ n = 1) ∧ s.size = 0 ∧ names.length = 0 ∧ ids.length = 0 ∧ len = 0) ∨ (k = 2 ∧ s.size = 0 ∧ names.length = 0 ∧ ids.length = 0 ∧ len = 0) ∨
    (k = 3 ∧ n = 0 ∧ s.size ≤ 64 ∧ names.length = 0 ∧ ids.length = 0 ∧ len = 0) ∨ (k = 4 ∧ n = 0 ∧ nameB s = true ∧ names.length = 0 ∧ ids.length = 0 ∧ len = 0) ∨
    (k = 5 ∧ n = 0 ∧ s.size = 0 ∧ ids.length = 0 ∧ names.length ≤ 8 ∧ len = names.length ∧ riseB names = true) ∨
    (k = 6 ∧ n = 0 ∧ s.size = 0 ∧ names.length = 0 ∧ ids.length ≤ 12 ∧ len = ids.length ∧ idsB ids = true) := by
  unfold headV at h
  by_cases h1 : k = 1
  · rw [if_pos h1] at h
    simp only [Bool.and_eq_true, decide_eq_true_eq] at h
    exact .inl ⟨h1, h.1.1.1.1, h.1.1.1.2, h.1.1.2, h.1.2, h.2⟩
  rw [if_neg h1] at h
  by_cases h2 : k = 2
  · rw [if_pos h2] at h
    simp only [Bool.and_eq_true, decide_eq_true_eq] at h
    exact .inr (.inl ⟨h2, h.1.1.1, h.1.1.2, h.1.2, h.2⟩)
  rw [if_neg h2] at h
  by_cases h3 : k = 3
  · rw [if_pos h3] at h
    simp only [Bool.and_eq_true, decide_eq_true_eq] at h
    exact .inr (.inr (.inl ⟨h3, h.1.1.1.1, h.1.1.1.2, h.1.1.2, h.1.2, h.2⟩))
  rw [if_neg h3] at h
  by_cases h4 : k = 4
  · rw [if_pos h4] at h
    simp only [Bool.and_eq_true, decide_eq_true_eq] at h
    exact .inr (.inr (.inr (.inl ⟨h4, h.1.1.1.1, h.1.1.1.2, h.1.1.2, h.1.2, h.2⟩)))
  rw [if_neg h4] at h
  by_cases h5 : k = 5
  · rw [if_pos h5] at h
    simp only [Bool.and_eq_true, decide_eq_true_eq] at h
    exact .inr (.inr (.inr (.inr (.inl ⟨h5, h.1.1.1.1.1, h.1.1.1.1.2, h.1.1.1.2, h.1.1.2, h.1.2, h.2⟩))))
  rw [if_neg h5] at h
  by_cases h6 : k = 6
  · rw [if_pos h6] at h
    simp only [Bool.and_eq_true, decide_eq_true_eq] at h
    exact .inr (.inr (.inr (.inr (.inr ⟨h6, h.1.1.1.1.1, h.1.1.1.1.2, h.1.1.1.2, h.1.1.2, h.1.2, h.2⟩))))
  rw [if_neg h6] at h
  cases h
theorem riseB_size {l : List ByteArray} (h : riseB l = true) {i : Nat} (hi : i < l.length) : (nth l i).size ≤ 64 := by
  have := nameB_sz (riseB_name h hi)
  omega
theorem iB_len {ids : List Int} (hi : ∀ x ∈ ids, (Lit.int .u64 x).wf = true) {i : Nat} (h : i < ids.length) : (iB ids i).length ≤ 10 := by
  unfold iB
  have hm : ids.getD i 0 = ids[i] := by simp [h]
  have := wf_u64_lt (hi _ (List.getElem_mem h))
  exact enc_length_le (by rw [hm]; omega)
theorem vbytes_1 {n : Int} {s : ByteArray} {names : List ByteArray} {ids : List Int} {len : Nat} {parts : Nat → Vt} : (Vt.mk 1 n s names ids len parts).bytes = [1, UInt8.ofNat n.toNat] := rfl
theorem vbytes_2 {n : Int} {s : ByteArray} {names : List ByteArray} {ids : List Int} {len : Nat} {parts : Nat → Vt} : (Vt.mk 2 n s names ids len parts).bytes = [2] ++ enc (zig n) := by
  unfold Vt.bytes
  rw [if_neg (by decide), if_pos rfl]
  rfl
theorem vbytes_3 {n : Int} {s : ByteArray} {names : List ByteArray} {ids : List Int} {len : Nat} {parts : Nat → Vt} : (Vt.mk 3 n s names ids len parts).bytes = [3] ++ wB s := by
  unfold Vt.bytes
  rw [if_neg (by decide), if_neg (by decide), if_pos rfl]
  rfl
theorem vbytes_4 {n : Int} {s : ByteArray} {names : List ByteArray} {ids : List Int} {len : Nat} {parts : Nat → Vt} : (Vt.mk 4 n s names ids len parts).bytes = [4] ++ wB s := by
  unfold Vt.bytes
  rw [if_neg (by decide), if_neg (by decide), if_neg (by decide), if_pos rfl]
  rfl
theorem vbytes_5 {n : Int} {s : ByteArray} {names : List ByteArray} {ids : List Int} {len : Nat} {parts : Nat → Vt} : (Vt.mk 5 n s names ids len parts).bytes = [5] ++ (enc names.length ++ (List.range names.length).flatMap (fun i => wB (nth names i) ++ (parts i).bytes)) := by
  conv => lhs; unfold Vt.bytes
  rw [if_neg (by decide), if_neg (by decide), if_neg (by decide), if_neg (by decide), if_pos rfl]
  rfl
theorem vbytes_6 {n : Int} {s : ByteArray} {names : List ByteArray} {ids : List Int} {len : Nat} {parts : Nat → Vt} : (Vt.mk 6 n s names ids len parts).bytes = [6] ++ (enc ids.length ++ (List.range ids.length).flatMap (fun i => iB ids i ++ (parts i).bytes)) := by
  conv => lhs; unfold Vt.bytes
  rw [if_neg (by decide), if_neg (by decide), if_neg (by decide), if_neg (by decide), if_neg (by decide), if_pos rfl]
  rfl
theorem Vt.bytes_len : ∀ (v : Vt) (d : Nat), v.rightAt d = true → v.inn → v.bytes.length ≤ vbnd (6 - d) := by
  intro v
  induction v with
  | nul => intro d h _; simp [Vt.bytes]
  | mk k n s names ids len parts ih =>
    intro d h hin
    obtain ⟨hn, hi, hp2⟩ := hin
    rw [Vt.rightAt_mk, Bool.and_eq_true, Bool.and_eq_true, List.all_eq_true] at h
    obtain ⟨⟨h5, hh⟩, hp⟩ := h
    have h5 := of_decide_eq_true h5
    have e1 : 6 - d = (5 - d) + 1 := by omega
    have e2 : 6 - (d + 1) = 5 - d := by omega
    rw [e1, vbnd]
    have hpp : ∀ i, i < len → (parts i).bytes.length ≤ vbnd (5 - d) := fun i hi => by
      have := ih i (d + 1) (hp i (List.mem_range.2 hi)) (hp2 i hi)
      rwa [e2] at this
    rcases headV_cases hh with ⟨rfl, _⟩ | ⟨rfl, _⟩ | ⟨rfl, _, hs, _⟩ | ⟨rfl, _, hs, _⟩ | ⟨rfl, _, _, _, h8, rfl, hr⟩ | ⟨rfl, _, _, _, h12, rfl, hr⟩
    · rw [vbytes_1]
      simp only [List.length_cons, List.length_nil]
      omega
    · rw [vbytes_2, List.length_append]
      have := wf_i64_le hn
      have h1 := enc_length_le (n := zig n) (zig_lt this.1 this.2)
      simp only [List.length_cons, List.length_nil]
      omega
    · rw [vbytes_3, List.length_append]
      have := wB_len hs
      simp only [List.length_cons, List.length_nil]
      omega
    · rw [vbytes_4, List.length_append]
      have := wB_len (s := s) (by have := nameB_sz hs; omega)
      simp only [List.length_cons, List.length_nil]
      omega
    · rw [vbytes_5]
      have h1 := enc_length_le (n := names.length) (by omega)
      have h2 := flat_blen (f := fun i => wB (nth names i) ++ (parts i).bytes) (b := 74 + vbnd (5 - d)) (n := names.length) (fun i hi => by
        rw [List.length_append]
        have h3 := wB_len (s := nth names i) (by have := nameB_sz (riseB_name hr hi); omega)
        have h4 := hpp i hi
        omega)
      have h4 : names.length * (74 + vbnd (5 - d)) ≤ 8 * (74 + vbnd (5 - d)) := Nat.mul_le_mul_right _ h8
      simp only [List.length_cons, List.length_append, List.length_nil]
      omega
    · rw [vbytes_6]
      have h1 := enc_length_le (n := ids.length) (by omega)
      have h2 := flat_blen (f := fun i => iB ids i ++ (parts i).bytes) (b := 10 + vbnd (5 - d)) (n := ids.length) (fun i hi' => by
        rw [List.length_append]
        have h3 := iB_len hi hi'
        have h4 := hpp i hi'
        omega)
      have h4 : ids.length * (10 + vbnd (5 - d)) ≤ 12 * (10 + vbnd (5 - d)) := Nat.mul_le_mul_right _ h12
      simp only [List.length_cons, List.length_append, List.length_nil]
      omega
end

section
open Go.RowKit

theorem below_drewN {B : Nat} {a w : World} (h : Below B a w) (n : Nat) : Below B a (w.drewN n) := ⟨h.os, h.tape, h.output, h.size, h.block⟩
/-- Block g is this row. -/
def Row (w : World) (g : Nat) (T : TypeId) (l : List Value) : Prop := w.heap[g]? = some (.cells l.toArray T (0, 0))
section
variable {w w' : World} {g : Nat} {T : TypeId} {l : List Value}
theorem Row.lt (h : Row w g T l) : g < w.heap.size := (Array.getElem?_eq_some_iff.1 h).1
theorem Row.cell (h : Row w g T l) {k : Nat} {v : Value} (hk : l[k]? = some v) : w.cell? ⟨g, k, none⟩ = some v := by
  rw [cell_of_row w g k _ _ _ h, List.getElem?_toArray]; exact hk
theorem Row.free (h : Row w g T l) (k : Nat) : w.frozen? ⟨g, k, none⟩ = false := frozen_of_row w g k _ _ h
theorem Row.set (h : Row w g T l) (k : Nat) (v : Value) : Row (w.setCell ⟨g, k, none⟩ v) g T (l.set k v) := by
  unfold Row at h ⊢
  rw [heap_setCell_same w g _ _ _ _ h, List.setIfInBounds_toArray]
theorem Row.below {B : Nat} (h : Row w g T l) (hb : Below B w w') (hg : g < B) : Row w' g T l := (hb.block g hg).trans h
theorem Row.belowAll (h : Row w g T l) (hb : Below w.heap.size w w') : Row w' g T l := h.below hb h.lt
theorem Row.drewN (h : Row w g T l) (n : Nat) : Row (w.drewN n) g T l := h
theorem Row.only {S : Nat → Prop} (h : Row w g T l) (ho : Only S w w') (hs : ¬ S g) : Row w' g T l := (ho.block g h.lt hs).trans h
theorem Row.rd (h : Row w g T l) {n : Nat} (hn : l.length = n) : Rd w (fun k => k = g) (some ⟨g, 0, none⟩) n l :=
  ⟨hn, fun _ => ⟨_, rfl, rfl, h.lt, fun j u hu => by
    have e : (⟨g, 0, none⟩ : Addr).add j = ⟨g, j, none⟩ := by unfold Addr.add; split <;> simp_all
    rw [e]; exact h.cell hu⟩⟩
theorem Row.new (w : World) (l : List Value) (T : TypeId) : Row (w.alloc (.cells l.toArray T)) w.heap.size T l := heap_alloc_new _ _
theorem Row.alloc (h : Row w g T l) (o : Obj) : Row (w.alloc o) g T l := (Below.heap_alloc _ _ _ h.lt).trans h
theorem Row.setCell (h : Row w g T l) {p : Addr} (hp : g ≠ p.block) (v : Value) : Row (w.setCell p v) g T l := (Below.heap_setCell _ _ _ _ hp).trans h
end

/-- A row of integers that is filled from its first cell on; whole. -/
def Tab (K : IntKind) (f : Nat → Nat) (n k : Nat) : List Value := (List.range n).map fun i => .int K ((if i < k then f i else 0 : Nat) : Int)
def Tabs (K : IntKind) (f : Nat → Nat) (n : Nat) : List Value := (List.range n).map fun i => .int K ((f i : Nat) : Int)
theorem Tab_length (K : IntKind) (f : Nat → Nat) (n k : Nat) : (Tab K f n k).length = n := by simp [Tab]
theorem Tabs_length (K : IntKind) (f : Nat → Nat) (n : Nat) : (Tabs K f n).length = n := by simp [Tabs]
theorem Tab_get (K : IntKind) (f : Nat → Nat) (n k : Nat) {j : Nat} (hj : j < n) : (Tab K f n k)[j]? = some (.int K ((if j < k then f j else 0 : Nat) : Int)) := by simp [Tab, hj]
theorem Tabs_get (K : IntKind) (f : Nat → Nat) (n : Nat) {j : Nat} (hj : j < n) : (Tabs K f n)[j]? = some (.int K ((f j : Nat) : Int)) := by simp [Tabs, hj]
theorem Tab_done (K : IntKind) (f : Nat → Nat) (n : Nat) : Tab K f n n = Tabs K f n := by
  unfold Tab Tabs
  refine List.map_congr_left fun i hi => ?_
  rw [if_pos (List.mem_range.1 hi)]
theorem Tab_zero (K : IntKind) (f : Nat → Nat) (n : Nat) : Tab K f n 0 = List.replicate n (.int K 0) := by
  unfold Tab
  refine List.ext_getElem? fun i => ?_
  by_cases h : i < n <;> simp [h]
theorem Tab_set (K : IntKind) (f : Nat → Nat) (n : Nat) {k : Nat} (hk : k < n) : (Tab K f n k).set k (.int K ((f k : Nat) : Int)) = Tab K f n (k + 1) := by
  refine List.ext_getElem? fun j => ?_
  by_cases hj : j < n
  · rw [List.getElem?_set, Tab_get _ _ _ _ hj, Tab_get _ _ _ _ hj]
    by_cases e : k = j
    · subst e; rw [if_pos rfl, if_pos (by rw [Tab_length]; exact hk), if_pos (by omega)]
    · rw [if_neg e]
      by_cases h2 : j < k
      · rw [if_pos h2, if_pos (by omega)]
      · rw [if_neg h2, if_neg (by omega)]
  · rw [List.getElem?_eq_none (by rw [List.length_set, Tab_length]; omega), List.getElem?_eq_none (by rw [Tab_length]; omega)]
theorem Tabs_one (K : IntKind) (f : Nat → Nat) (n : Nat) : (Tabs K f n).toArray.all (·.oneCell') = true := by
  rw [List.all_toArray, List.all_eq_true]
  intro v hv
  simp only [Tabs, List.mem_map] at hv
  obtain ⟨i, _, rfl⟩ := hv
  rfl
theorem Tabs_congr (K : IntKind) {f g : Nat → Nat} {n : Nat} (h : ∀ i, i < n → f i = g i) : Tabs K f n = Tabs K g n := by
  unfold Tabs
  refine List.map_congr_left fun i hi => ?_
  rw [h i (List.mem_range.1 hi)]
end

section
set_option maxRecDepth 100000
set_option linter.unusedSimpArgs false
set_option linter.unusedVariables false
open Go.RowKit

def rowD : TypeDesc → Bool
  | .struct _ => true
  | .array _ _ => true
  | _ => false
theorem Row.new1 (w : World) (X : Obj) (l : List Value) (T : TypeId) : Row ((w.alloc X).alloc (.cells l.toArray T)) (w.heap.size + 1) T l := heap_alloc2_new _ _ _
theorem Row.new2 (w : World) (X Y : Obj) (l : List Value) (T : TypeId) : Row (((w.alloc X).alloc Y).alloc (.cells l.toArray T)) (w.heap.size + 1 + 1) T l := by
  have h := Row.new ((w.alloc X).alloc Y) l T
  rwa [show ((w.alloc X).alloc Y).heap.size = w.heap.size + 1 + 1 by simp] at h
theorem Below.alloc1 (w : World) (X : Obj) : Below w.heap.size w (w.alloc X) := (Below.refl _ _).alloc (Nat.le_refl _) _
theorem Below.alloc2 (w : World) (X Y : Obj) : Below w.heap.size w ((w.alloc X).alloc Y) := ((Below.refl _ _).alloc (Nat.le_refl _) _).alloc (by simp) _
theorem Below.alloc3 (w : World) (X Y Z : Obj) : Below w.heap.size w (((w.alloc X).alloc Y).alloc Z) := (Below.alloc2 w X Y).alloc (by simp; omega) _
theorem run_loadVar_at {P : Program} (w : World) (a : Addr) (ty : TypeId) (cs : List Value) (d : TypeDesc) (hc : ∀ j v, cs[j]? = some v → w.cell? (a.add j) = some v)
    (hu : P.underlying ty = some d) (hd : rowD d = true) (hi : (P.info? ty).map (·.size) = some cs.length) : (loadVar ty a).run P w = .ok (.agg cs.toArray) w := by
  have hl : (loadCells a cs.length).run P w = .ok cs.toArray w := run_loadCells_list (P := P) w a cs hc
  cases hq : P.info? ty with
  | none => simp [hq] at hi
  | some i =>
    have hs : i.size = cs.length := by simpa [hq] using hi
    have hagg : (isAgg ty).run P w = .ok true w := by
      unfold isAgg
      rw [Sem.run_bind, run_underlying hu w]
      cases d <;> simp_all [rowD]
    simp [loadVar, Sem.run_bind, hagg, sizeOf, typeInfo, hq, hs, hl]
theorem wpList_load_at {P : Program} {ops : Array Oper} {rest : List Oper} {op : Oper} {a : Act} {w : World} {Q : Exit → Act → World → Prop} (hgd : op.guard = none) (ty : TypeId) (x : Operand) (ho : op.op = .load ty x)
    (ad : Addr) (hx : a.eval x = .pointer (some ad)) (cs : List Value) (d : TypeDesc) (hc : ∀ j v, cs[j]? = some v → w.cell? (ad.add j) = some v)
    (hu : P.underlying ty = some d) (hd : rowD d = true) (hi : (P.info? ty).map (·.size) = some cs.length)
    (h : wpList P ops Q rest (a.put op.dst (.agg cs.toArray)) w) : wpList P ops Q (op :: rest) a w :=
  wpList_plain hgd fun _ hK => by
    unfold Oper.wp execOp
    simp only [ho, hx, Instr.loadAt, Instr.sureAddr, Sem.run_bind, Sem.run_pure, Result.andThen_ok, run_loadVar_at w ad ty cs d hc hu hd hi]
    exact hK _ _ h
theorem wpList_indexAt {P : Program} {ops : Array Oper} {rest : List Oper} {o : Oper} {a : Act} {w : World} {Q : Exit → Act → World → Prop} (hgd : o.guard = none) (T : TypeId) (x y : Operand) (ho : o.op = .indexAddr T x y) (u v r : Value) (hx : a.eval x = u) (hy : a.eval y = v)
    (hi : (Instr.indexAt T u v).run P w = .ok r w) (h : wpList P ops Q rest (a.put o.dst r) w) : wpList P ops Q (o :: rest) a w := by
  refine wpList_plain hgd fun _ hK => ?_
  unfold Oper.wp execOp
  simp only [ho, Sem.run_bind, Sem.run_pure, Result.andThen_ok, hx, hy, hi]
  exact hK _ _ h
theorem v_size : (Tryz.prog.info? 26).map (·.size) = some 6 := by kernel_rfl
theorem v_len {cs : List Value} (h : cs.length = 6) : (Tryz.prog.info? 26).map (·.size) = some cs.length := by rw [h]; exact v_size
theorem v_info {cs : List Value} (h : cs.length = 6) : (Tryz.prog.info? 26).map (·.size) = some cs.toArray.size := by rw [List.size_toArray]; exact v_len h
theorem ix_v (ad : Addr) (n cap k : Nat) (h : k < n) (w : World) : (Instr.indexAt 24 (.slice (some ad) n cap) (.int .i64 (k : Int))).run Tryz.prog w = .ok (.pointer (some (ad.add (k * 6)))) w := by
  have h1 : (0 : Int) ≤ (k : Int) := by omega
  have h2 : (k : Int) < (n : Int) := by omega
  go_simp
/-- A part's place, and what is there. -/
theorem Parts.at_ {w : World} {s n : Nat} {c : Option Addr} {css : Nat → List Value} (h : Parts w s c n css) {j : Nat} (hj : j < n) :
    ∃ ad, c = some ad ∧ (css j).length = s ∧ ∀ i u, (css j)[i]? = some u → w.cell? ((ad.add (j * s)).add i) = some u := by
  obtain ⟨ad, e, _, hc⟩ := h (by omega)
  exact ⟨ad, e, (hc j hj).1, fun i u hu => by rw [add_add]; exact (hc j hj).2 i u hu⟩

/-- The document's depth. -/
theorem rdepth_ref : ∀ (v : Vt) (cs : List Value) (w : World), VAt w v cs → v.depth ≤ 1000 →
    Calls Tryz.prog 18 #[.agg cs.toArray] w fun e w' => e = .returned (.int .i64 (v.depth : Int)) ∧ Below w.heap.size w w' := by
  intro v
  induction v with
  | nul => intro cs w h; cases h
  | mk k n s names ids len parts ih =>
    intro cs w h hd
    cases h with
    | mk css hk hn hs h1 h1c hss h2 h2c hi h3 h3c hp =>
    rename_i a b c la ca lb cb cc
    rw [Vt.depth] at hd
    have hmm : ∀ i, i < len → (parts i).depth ≤ 999 := most_le.1 (by omega)
    have hml : ∀ m, m ≤ len → most (fun i => (parts i).depth) m ≤ 999 := fun m hm => most_le.2 fun i hi => hmm i (by omega)
    have hdn : (Vt.mk k n s names ids len parts).depth = most (fun i => (parts i).depth) len + 1 := by rw [Vt.depth]
    have HDN := Lib.hid hdn
    have HP := Lib.hid hp
    have H3 := Lib.hid h3
    have HMM := Lib.hid hmm
    have HML := Lib.hid hml
    have IH := Lib.hid ih
    have hlc : len ≤ maxLen := Nat.le_trans h3c.1 h3c.2
    have hlb : (len : Int) ≤ 9223372036854775807 := by unfold maxLen at hlc; omega
    have HB0 := Lib.hid (Row.new w [.int .i64 k, .int .i64 n, .string s, .slice a la ca, .slice b lb cb, .slice c len cc] 26)
    have HW := Lib.hid (Below.alloc1 w (.cells #[.int .i64 k, .int .i64 n, .string s, .slice a la ca, .slice b lb cb, .slice c len cc] 26))
    clear hp h3 hmm hml ih hd h1 h2 hdn hk hn hs h1c hss h2c hi h3c hlc
    go_enter Tryz.func18, Tryz.ntmps18
    go_wp2_with fail
    go_loopw [3, 4] (fun m i wr => ∃ j : Nat, j ≤ len ∧ i = .int .i64 (j : Int) ∧ m = .int .i64 ((most (fun i => (parts i).depth) j : Int) + 1) ∧ Row wr w.heap.size 26 [.int .i64 k, .int .i64 n, .string s, .slice a la ca, .slice b lb cb, .slice c len cc] ∧ Below w.heap.size w wr) (fun _ i _ => len - (intOf i).toNat)
    case atStart => exact ⟨0, Nat.zero_le _, rfl, rfl, HB0.out, HW.out⟩
    case round =>
      obtain ⟨j, hjn, rfl, rfl, hb0, hw⟩ := hrel
      have bj0 : (0 : Int) ≤ (j : Int) := by omega
      have hml := HML.out j hjn
      have hc5 := hb0.cell (k := 5) (v := .slice c len cc) rfl
      by_cases hj : j < len
      · have hji : (j : Int) < (len : Int) := by omega
        have hvj := (HP.out j hj).later hw
        obtain ⟨ad, rfl, hlen, hcell⟩ := (H3.out.below hw).at_ hj
        have hrec := IH.out j (css j) wr hvj (by have := HMM.out j hj; omega)
        have hmd := HMM.out j hj
        have hmax : most (fun i => (parts i).depth) (j + 1) = max (most (fun i => (parts i).depth) j) (parts j).depth := rfl
        have HMX := Lib.hid hmax
        have HIX := Lib.hid (ix_v ad len cc j hj wr)
        have HREC := Lib.hid hrec
        have HC := Lib.hid hcell
        have HL := Lib.hid (v_len hlen)
        have HB1 := Lib.hid hb0
        have HW1 := Lib.hid hw
        clear hvj hlen hcell hrec hmax hw hb0 HB0 HW
        generalize hq : most (fun i => (parts i).depth) j = q at *
        generalize hr : (parts j).depth = r at *
        clear hq hr
        go_wp2_with (first
          | (refine wpList_indexAt rfl 24 (.tmp 14) (.tmp 15) rfl _ _ _ rfl rfl HIX.out ?_)
          | (refine wpList_load_at rfl 26 (.tmp 16) rfl (ad.add (j * 6)) rfl (css j) _ HC.out Tryz.underlying26 rfl HL.out ?_))
        refine HREC.out.mono ?_
        rintro e W1 ⟨rfl, hb⟩
        have hw1 := HW1.out.trans (hb.mono HW1.out.size)
        have hb1 := HB1.out.belowAll hb
        by_cases hgt : q + 1 < r + 1
        · have hgi : (q : Int) + 1 < (r : Int) + 1 := by omega
          go_wp2_with fail
          go_roundw
          case rel => exact ⟨j + 1, by omega, by go_num, by rw [HMX.out, Nat.max_eq_right (by omega)], hb1, hw1⟩
          case measure => simp [intOf] <;> omega
        · have hgi : ¬ (q : Int) + 1 < (r : Int) + 1 := by omega
          go_wp2_with fail
          go_roundw
          case rel => exact ⟨j + 1, by omega, by go_num, by rw [HMX.out, Nat.max_eq_left (by omega)], hb1, hw1⟩
          case measure => simp [intOf] <;> omega
      · obtain rfl : j = len := by omega
        go_wp2_with fail
        go_ret
        exact ⟨by rw [HDN.out]; rfl, hw⟩
end

section
open Go.RowKit

section
variable {P : Program} {ops : Array Oper} {Q : Exit → Act → World → Prop} {S : World → Prop}

/-- In state a, in each world that meets S, operation o leaves v, and memory that was there as it was. -/
def Gives (P : Program) (S : World → Prop) (o : Oper) (v : Value) (a : Act) : Prop :=
  ∀ w, S w → ∀ K : Act → World → Prop, (∀ w', Below w.heap.size w w' → K (a.put o.dst v) w') → o.wp P a w K (fun _ _ _ => False)

theorem put_same {a a' : Act} {dst : Option Tmp} {u v : Value} (hs : ∀ d, dst = some d → d < a.tmps.size) (h : a.put dst u = a.put dst v) : a'.put dst u = a'.put dst v := by
  cases dst with
  | none => rfl
  | some d =>
    have h1 := congrArg (fun b : Act => b.tmps[d]?) h
    have hd := hs d rfl
    simp [Act.put, hd] at h1
    rw [h1]

theorem Gives.wp {o : Oper} {v : Value} {a a' : Act} (h : Gives P S o v a) (he : execOp a'.eval o = execOp a.eval o) (hs : ∀ d, o.dst = some d → d < a.tmps.size) {w : World} (hS : S w) :
    o.wp P a' w (fun a'' w' => a'' = a'.put o.dst v ∧ Below w.heap.size w w') Q := by
  have h1 := h w hS (fun a'' w' => a'' = a.put o.dst v ∧ Below w.heap.size w w') (fun w' hb => ⟨rfl, hb⟩)
  unfold Oper.wp at *
  rw [he]
  generalize (execOp a.eval o).run P w = r at *
  cases r with
  | ok n w' =>
    cases n <;> simp only [Oper.upon] at h1 ⊢
    case value u => exact ⟨put_same hs h1.1, h1.2⟩
    case skip => exact ⟨put_same hs h1.1, h1.2⟩
    case defer d =>
      exfalso
      have h2 := congrArg (fun b : Act => b.defers.length) h1.1
      cases hd : o.dst <;> simp [Act.put, hd] at h2
    case enter f args =>
      refine Calls.mono h1 fun e w'' he => ?_
      cases e with
      | returned u => exact ⟨put_same hs he.1, he.2⟩
      | panicked c => exact he.elim
      | outgrown => obtain ⟨_, _, hf⟩ := he; exact hf.elim
    case row row args => exact Rows.mono h1 fun u w'' he => ⟨put_same hs he.1, he.2⟩
  | halt x w' =>
    cases x <;> simp only [Oper.upon] at h1 ⊢

/-- Where operation number i leaves its value. -/
def dstOf (ops : Array Oper) (i : Nat) : Option Tmp := (ops[i]?).bind (·.dst)
/-- State a is a0 with the values that M tells. -/
structure Has (ops : Array Oper) (a0 : Act) (M : Nat → Value → Prop) (a : Act) : Prop where
  defers : a.defers = a0.defers
  size : a.tmps.size = a0.tmps.size
  there : ∀ t j u, M j u → dstOf ops j = some t → t < a0.tmps.size → a.tmps[t]? = some u
  else_ : ∀ t, (∀ j u, M j u → dstOf ops j ≠ some t) → a.tmps[t]? = a0.tmps[t]?

theorem Has.start (a0 : Act) : Has ops a0 (fun _ _ => False) a0 := ⟨rfl, rfl, fun _ _ _ h => h.elim, fun _ _ => rfl⟩
theorem Has.put {a0 a : Act} {M M' : Nat → Value → Prop} (h : Has ops a0 M a) {i : Nat} {v : Value} (hd : ∀ j u t, M j u → dstOf ops i = some t → dstOf ops j ≠ some t)
    (hM : ∀ j u, M' j u ↔ M j u ∨ (j = i ∧ u = v)) : Has ops a0 M' (a.put (dstOf ops i) v) := by
  cases hdi : dstOf ops i with
  | none =>
    refine ⟨h.defers, h.size, fun t j u hm hj ht => ?_, fun t ht => ?_⟩
    · rcases (hM j u).1 hm with hm | ⟨rfl, rfl⟩
      · exact h.there t j u hm hj ht
      · rw [hdi] at hj; cases hj
    · exact h.else_ t fun j u hm => ht j u ((hM j u).2 (.inl hm))
  | some d =>
    refine ⟨h.defers, by simp [Act.put, h.size], fun t j u hm hj ht => ?_, fun t ht => ?_⟩
    · rcases (hM j u).1 hm with hm | ⟨rfl, rfl⟩
      · have hne : d ≠ t := fun e => hd j u t hm (e ▸ hdi) hj
        simp only [Act.put, Array.getElem?_setIfInBounds_ne hne]
        exact h.there t j u hm hj ht
      · rw [hdi] at hj
        cases hj
        simp [Act.put, h.size, ht]
    · have hne : d ≠ t := fun e => ht i v ((hM i v).2 (.inr ⟨rfl, rfl⟩)) (e ▸ hdi)
      simp only [Act.put, Array.getElem?_setIfInBounds_ne hne]
      exact h.else_ t fun j u hm => ht j u ((hM j u).2 (.inl hm))
theorem Has.congr {a0 a b : Act} {M N : Nat → Value → Prop} (h : Has ops a0 M a) (k : Has ops a0 N b) {t : Nat}
    (ht : (∃ j u, M j u ∧ N j u ∧ dstOf ops j = some t) ∨ ((∀ j u, M j u → dstOf ops j ≠ some t) ∧ (∀ j u, N j u → dstOf ops j ≠ some t))) : a.tmps[t]? = b.tmps[t]? := by
  rcases ht with ⟨j, u, hm, hn, hj⟩ | ⟨hm, hn⟩
  · rcases Nat.lt_or_ge t a0.tmps.size with hlt | hge
    · rw [h.there t j u hm hj hlt, k.there t j u hn hj hlt]
    · rw [Array.getElem?_eq_none (by rw [h.size]; exact hge), Array.getElem?_eq_none (by rw [k.size]; exact hge)]
  · rw [h.else_ t hm, k.else_ t hn]
theorem Has.eq {a0 a b : Act} {M : Nat → Value → Prop} (h : Has ops a0 M a) (k : Has ops a0 M b) : a = b := by
  have ht : a.tmps = b.tmps := Array.ext_getElem? fun t => h.congr k (by
    by_cases he : ∃ j u, M j u ∧ dstOf ops j = some t
    · obtain ⟨j, u, hm, hj⟩ := he
      exact .inl ⟨j, u, hm, hm, hj⟩
    · have hn : ∀ j u, M j u → dstOf ops j ≠ some t := fun j u hm hj => he ⟨j, u, hm, hj⟩
      exact .inr ⟨hn, hn⟩)
  have hd : a.defers = b.defers := h.defers.trans k.defers.symm
  cases a; cases b
  simp only at ht hd
  subst ht hd
  rfl

/-- What looks at the same sees the same. -/
theorem exec_same {o : Oper} (hs : ∀ cs b, o.op ≠ .select cs b) {a b : Act} (h : ∀ t, t ∈ o.looksAt ops → a.tmps[t]? = b.tmps[t]?) : execOp a.eval o = execOp b.eval o := by
  refine execOp_congr o hs fun x hx => ?_
  cases x with
  | tmp t =>
    have := h t (List.mem_append_left _ (List.mem_filterMap.2 ⟨.tmp t, by simpa using hx, rfl⟩))
    simp [Act.eval, this]
  | _ => rfl
theorem wanted_same {o : Oper} {a b : Act} (h : ∀ t, t ∈ o.looksAt ops → a.tmps[t]? = b.tmps[t]?) : Region.wanted o (yielded ops a.tmps) = Region.wanted o (yielded ops b.tmps) := by
  unfold Region.wanted
  cases hg : o.guard with
  | none => rfl
  | some gw =>
    obtain ⟨g, want⟩ := gw
    have hy : yielded ops a.tmps g = yielded ops b.tmps g := by
      unfold yielded
      cases ht : (ops[g]?).bind (·.dst) with
      | none => rfl
      | some t =>
        have := h t (by simp [Oper.looksAt, hg, ht])
        simp [this]
    simp only [hy]

/-- Operation number y waits for number x. -/
def waits (ops : Array Oper) (y x : Nat) : Bool := ((ops[y]?).map fun o => o.after.any fun e => Region.binds .any e && e.on == x).getD false
theorem waits_spec {y x : Nat} {o : Oper} (ho : ops[y]? = some o) (h : waits ops y x = true) : ∃ e ∈ o.after, Region.binds .any e = true ∧ e.on = x := by
  simp only [waits, ho, Option.map_some, Option.getD_some] at h
  obtain ⟨e, he, hb⟩ := Array.any_eq_true'.1 h
  simp only [Bool.and_eq_true, beq_iff_eq] at hb
  exact ⟨e, he, hb.1, hb.2⟩
def looksOf (ops : Array Oper) (i : Nat) : List Tmp := ((ops[i]?).map (·.looksAt ops)).getD []
def dstsApart (ops : Array Oper) (i j : Nat) : Bool := match dstOf ops i with
  | some t => dstOf ops j != some t
  | none => true
def dstSeen (ops : Array Oper) (j i : Nat) : Bool := match dstOf ops j with
  | some t => (looksOf ops i).contains t
  | none => false

/-- The operations that give their values, in the text's order. -/
def detsOk (ops : Array Oper) (allocs : List Nat) : List Nat → Bool
  | [] => true
  | i :: r => (r.all fun j => j != i && dstsApart ops i j && (!dstSeen ops j i || waits ops j i) && (!dstSeen ops i j || waits ops j i)) && !dstSeen ops i i && (allocs.all fun k => k != i && dstsApart ops i k && !dstSeen ops k i) && detsOk ops allocs r
def allocsOk (ops : Array Oper) : List Nat → Bool
  | [] => true
  | i :: r => (r.all fun j => j != i && dstsApart ops i j) && allocsOk ops r
/-- Nothing waits for what comes later; and what is late waits for all others. -/
def lateOk (ops : Array Oper) (early late : List Nat) : Bool :=
  ((List.range ops.size).all fun i => (early.contains i != late.contains i)) &&
  ((List.range ops.size).all fun i => ((ops[i]?).map fun o => o.after.all fun e => !Region.binds .any e || decide (e.on < i)).getD false) &&
  (early.all fun i => decide (i < ops.size)) &&
  (late.all fun s => early.all fun x => waits ops s x || early.any fun y => decide (x < y) && waits ops y x)

/-- One behind the other, in the text's order: what each gives; the state in the end. -/
inductive Dets (P : Program) (ops : Array Oper) (S : World → Prop) : List (Nat × Value) → Act → Act → Prop
  | nil {a : Act} : Dets P ops S [] a a
  | cons {i : Nat} {o : Oper} {v : Value} {vs : List (Nat × Value)} {a b : Act} (ho : ops[i]? = some o) (hw : Region.wanted o (yielded ops a.tmps) = true) (hg : Gives P S o v a)
      (hr : Dets P ops S vs (a.put o.dst v) b) : Dets P ops S ((i, v) :: vs) a b
  | skip {i : Nat} {o : Oper} {vs : List (Nat × Value)} {a b : Act} (ho : ops[i]? = some o) (hw : Region.wanted o (yielded ops a.tmps) = false)
      (hr : Dets P ops S vs (a.put o.dst undef) b) : Dets P ops S ((i, undef) :: vs) a b

/-- What one operation asks, in its own state. -/
def GivesAt (P : Program) (ops : Array Oper) (S : World → Prop) (o : Oper) (v : Value) (a : Act) : Prop :=
  (Region.wanted o (yielded ops a.tmps) = true ∧ Gives P S o v a) ∨ (Region.wanted o (yielded ops a.tmps) = false ∧ v = undef)

theorem Dets.all {a0 : Act} : ∀ {vs : List (Nat × Value)} {a b : Act} {M : Nat → Value → Prop} {allocs : List Nat}, Dets P ops S vs a b → Has ops a0 M a → detsOk ops allocs (vs.map (·.1)) = true →
    (∀ j u i v t, M j u → (i, v) ∈ vs → dstOf ops i = some t → dstOf ops j ≠ some t) → (∀ j u i v, M j u → (i, v) ∈ vs → dstSeen ops j i = true → waits ops i j = true) → (∀ j u i v, M j u → (i, v) ∈ vs → dstSeen ops i j = true → waits ops i j = true) →
    Has ops a0 (fun j u => M j u ∨ (j, u) ∈ vs) b ∧
    ∀ i v, (i, v) ∈ vs → ∃ (o : Oper) (ai : Act) (N : Nat → Value → Prop), ops[i]? = some o ∧ GivesAt P ops S o v ai ∧ Has ops a0 N ai ∧ (∀ j u, N j u → M j u ∨ (j, u) ∈ vs) ∧
      (∀ j u, N j u → dstSeen ops j i = true → waits ops i j = true) ∧ (∀ j u, (M j u ∨ (j, u) ∈ vs) → dstSeen ops j i = true → N j u ∨ waits ops j i = true) := by
  intro vs
  induction vs with
  | nil =>
    intro a b M allocs h hM _ _ _ _
    cases h
    exact ⟨⟨hM.defers, hM.size, fun t j u hm => hM.there t j u (hm.resolve_right (by simp)), fun t ht => hM.else_ t fun j u hm => ht j u (.inl hm)⟩, fun i v h => by cases h⟩
  | cons iv vs ih =>
    intro a b M allocs h hM hok hdst hseen hback
    obtain ⟨i, v⟩ := iv
    obtain ⟨o, ho, hg, hr⟩ : ∃ o, ops[i]? = some o ∧ GivesAt P ops S o v a ∧ Dets P ops S vs (a.put o.dst v) b := by
      cases h with
      | cons ho hw hg hr => exact ⟨_, ho, .inl ⟨hw, hg⟩, hr⟩
      | skip ho hw hr => exact ⟨_, ho, .inr ⟨hw, rfl⟩, hr⟩
    have hdo : dstOf ops i = o.dst := by simp [dstOf, ho]
    rw [List.map_cons] at hok
    simp only [detsOk, Bool.and_eq_true, List.all_eq_true] at hok
    obtain ⟨⟨⟨hrest, hself⟩, halloc⟩, hok'⟩ := hok
    have hrest' : ∀ j u, (j, u) ∈ vs → j ≠ i ∧ dstsApart ops i j = true ∧ (dstSeen ops j i = true → waits ops j i = true) ∧ (dstSeen ops i j = true → waits ops j i = true) := fun j u hj => by
      have h1 := hrest j (List.mem_map.2 ⟨(j, u), hj, rfl⟩)
      simp only [Bool.or_eq_true, Bool.not_eq_true', bne_iff_ne] at h1
      exact ⟨h1.1.1.1, h1.1.1.2, fun e => h1.1.2.resolve_left (by rw [e]; simp), fun e => h1.2.resolve_left (by rw [e]; simp)⟩
    have hself' : dstSeen ops i i = false := by simpa using hself
    have hap : ∀ j u t, (j, u) ∈ vs → dstOf ops i = some t → dstOf ops j ≠ some t := fun j u t hj ht => by
      have h1 := (hrest' j u hj).2.1
      simp only [dstsApart, ht, bne_iff_ne] at h1
      exact h1
    have hM' : Has ops a0 (fun j u => M j u ∨ (j = i ∧ u = v)) (a.put o.dst v) := hdo ▸ hM.put (fun j u t hm ht => hdst j u i v t hm (List.mem_cons_self ..) ht) (fun _ _ => Iff.rfl)
    have hih := ih hr hM' hok' (fun j u i' v' t hm hi' ht => by
        rcases hm with hm | ⟨rfl, rfl⟩
        · exact hdst j u i' v' t hm (List.mem_cons_of_mem _ hi') ht
        · exact fun e => hap i' v' t hi' e ht)
      (fun j u i' v' hm hi' he => by
        rcases hm with hm | ⟨rfl, rfl⟩
        · exact hseen j u i' v' hm (List.mem_cons_of_mem _ hi') he
        · exact (hrest' i' v' hi').2.2.2 he)
      (fun j u i' v' hm hi' he => by
        rcases hm with hm | ⟨rfl, rfl⟩
        · exact hback j u i' v' hm (List.mem_cons_of_mem _ hi') he
        · exact (hrest' i' v' hi').2.2.1 he)
    have hiff : ∀ j u, ((M j u ∨ (j = i ∧ u = v)) ∨ (j, u) ∈ vs) ↔ (M j u ∨ (j, u) ∈ (i, v) :: vs) := fun j u => by
      rw [List.mem_cons, Prod.mk.injEq, or_assoc]
    refine ⟨?_, fun i' v' hm => ?_⟩
    · have h1 := hih.1
      exact ⟨h1.defers, h1.size, fun t j u hm => h1.there t j u ((hiff j u).2 hm), fun t ht => h1.else_ t fun j u hm => ht j u ((hiff j u).1 hm)⟩
    · rcases List.mem_cons.1 hm with e | hm
      · cases e
        refine ⟨o, a, M, ho, hg, hM, fun j u h => .inl h, fun j u h he => hseen j u i v h (List.mem_cons_self ..) he, fun j u h he => ?_⟩
        rcases h with h | h
        · exact .inl h
        · rcases List.mem_cons.1 h with e | h
          · cases e; rw [hself'] at he; cases he
          · exact .inr ((hrest' j u h).2.2.1 he)
      · obtain ⟨o', ai, N, ho', hg', hN, hN1, hN2, hN3⟩ := hih.2 i' v' hm
        exact ⟨o', ai, N, ho', hg', hN, fun j u h => (hiff j u).1 (hN1 j u h), hN2, fun j u h he => hN3 j u ((hiff j u).2 h) he⟩

theorem dstSeen_of {j i : Nat} {o : Oper} (ho : ops[i]? = some o) {t : Nat} (ht : t ∈ o.looksAt ops) (hj : dstOf ops j = some t) : dstSeen ops j i = true := by
  simp only [dstSeen, hj, looksOf, ho, Option.map_some, Option.getD_some, List.contains_iff_mem]
  exact ht
theorem dstsApart_of {i j t : Nat} (h : dstsApart ops i j = true) (hi : dstOf ops i = some t) : dstOf ops j ≠ some t := by
  simp only [dstsApart, hi, bne_iff_ne] at h
  exact h
theorem detsOk_allocs {allocs : List Nat} : ∀ {l : List Nat}, detsOk ops allocs l = true → ∀ i ∈ l, ∀ k ∈ allocs, k ≠ i ∧ dstsApart ops i k = true ∧ dstSeen ops k i = false
  | [], _, _, h => by cases h
  | x :: r, hok, i, hi => by
    simp only [detsOk, Bool.and_eq_true, List.all_eq_true] at hok
    obtain ⟨⟨_, ha⟩, hr⟩ := hok
    rcases List.mem_cons.1 hi with rfl | hi
    · intro k hk
      have := ha k hk
      simp only [Bool.not_eq_true', bne_iff_ne] at this
      exact ⟨this.1.1, this.1.2, this.2⟩
    · exact detsOk_allocs hr i hi
theorem detsOk_apart {allocs : List Nat} : ∀ {l : List Nat}, detsOk ops allocs l = true → ∀ i ∈ l, ∀ j ∈ l, i ≠ j → ∀ t, dstOf ops i = some t → dstOf ops j ≠ some t
  | [], _, _, h => by cases h
  | x :: r, hok, i, hi => by
    simp only [detsOk, Bool.and_eq_true, List.all_eq_true] at hok
    obtain ⟨⟨⟨hx, _⟩, _⟩, hr⟩ := hok
    intro j hj hne t ht
    rcases List.mem_cons.1 hi with rfl | hi'
    · rcases List.mem_cons.1 hj with rfl | hj'
      · exact absurd rfl hne
      · exact dstsApart_of (hx j hj').1.1.2 ht
    · rcases List.mem_cons.1 hj with rfl | hj'
      · intro e
        exact dstsApart_of (hx i hi').1.1.2 e ht
      · exact detsOk_apart hr i hi' j hj' hne t ht
theorem detsOk_unique {allocs : List Nat} : ∀ {vs : List (Nat × Value)}, detsOk ops allocs (vs.map (·.1)) = true → ∀ {i : Nat} {u v : Value}, (i, u) ∈ vs → (i, v) ∈ vs → u = v
  | [], _, _, _, _, h, _ => by cases h
  | x :: r, hok, i, u, v, hu, hv => by
    rw [List.map_cons] at hok
    simp only [detsOk, Bool.and_eq_true, List.all_eq_true] at hok
    obtain ⟨⟨⟨hx, _⟩, _⟩, hr⟩ := hok
    have hne : ∀ y w, (y, w) ∈ r → y ≠ x.1 := fun y w hy => by
      have := (hx y (List.mem_map.2 ⟨(y, w), hy, rfl⟩)).1.1.1
      simpa using this
    rcases List.mem_cons.1 hu with e | hu'
    · subst e
      rcases List.mem_cons.1 hv with e | hv'
      · cases e; rfl
      · exact absurd rfl (hne _ _ hv')
    · rcases List.mem_cons.1 hv with e | hv'
      · subst e; exact absurd rfl (hne _ _ hu')
      · exact detsOk_unique hr hu' hv'
theorem allocsOk_apart : ∀ {l : List Nat}, allocsOk ops l = true → ∀ i ∈ l, ∀ j ∈ l, i ≠ j → ∀ t, dstOf ops i = some t → dstOf ops j ≠ some t
  | [], _, _, h => by cases h
  | x :: r, hok, i, hi => by
    simp only [allocsOk, Bool.and_eq_true, List.all_eq_true] at hok
    obtain ⟨hx, hr⟩ := hok
    intro j hj hne t ht
    rcases List.mem_cons.1 hi with rfl | hi'
    · rcases List.mem_cons.1 hj with rfl | hj'
      · exact absurd rfl hne
      · exact dstsApart_of (hx j hj').2 ht
    · rcases List.mem_cons.1 hj with rfl | hj'
      · intro e
        exact dstsApart_of (hx i hi').2 e ht
      · exact allocsOk_apart hr i hi' j hj' hne t ht

/-- A variable that the region makes: the operation, the type, its cells. -/
structure Made where
  op : Nat
  T : TypeId
  z : List Value
def AllocOp (P : Program) (ops : Array Oper) (m : Made) : Prop :=
  ∃ o, ops[m.op]? = some o ∧ o.guard = none ∧ ∀ (ρ : Operand → Value) w, (execOp ρ o).run P w = .ok (.value (.pointer (some ⟨w.heap.size, 0, none⟩))) (w.alloc (.cells m.z.toArray m.T))
theorem allocsOk_unique : ∀ {l : List Made}, allocsOk ops (l.map (·.op)) = true → ∀ m ∈ l, ∀ m' ∈ l, m.op = m'.op → m = m'
  | [], _, _, h => by cases h
  | x :: r, hok, m, hm => by
    rw [List.map_cons] at hok
    simp only [allocsOk, Bool.and_eq_true, List.all_eq_true] at hok
    obtain ⟨hx, hr⟩ := hok
    have hne : ∀ y ∈ r, y.op ≠ x.op := fun y hy => by
      have := (hx y.op (List.mem_map.2 ⟨y, hy, rfl⟩)).1
      simpa using this
    intro m' hm' he
    rcases List.mem_cons.1 hm with rfl | h1
    · rcases List.mem_cons.1 hm' with rfl | h2
      · rfl
      · exact absurd he.symm (hne _ h2)
    · rcases List.mem_cons.1 hm' with rfl | h2
      · exact absurd he (hne _ h1)
      · exact allocsOk_unique hr m h1 m' h2 he

/-- How many are not yet listed. -/
def cnt (ops : Array Oper) (L : Array Bool) : Nat := (List.range ops.size).countP fun i => !L.getD i true
theorem countP_less {p q : Nat → Bool} {i : Nat} : ∀ (l : List Nat), l.Nodup → i ∈ l → p i = true → q i = false → (∀ j, j ≠ i → q j = p j) → l.countP q + 1 = l.countP p
  | [], _, h, _, _, _ => by cases h
  | x :: r, hn, hi, hp, hq, he => by
    rw [List.nodup_cons] at hn
    rcases List.mem_cons.1 hi with rfl | hi
    · have : r.countP q = r.countP p := List.countP_congr fun j hj => by rw [he j (fun e => hn.1 (e ▸ hj))]
      simp [hp, hq, this]
    · have ih := countP_less r hn.2 hi hp hq he
      have hx : x ≠ i := fun e => hn.1 (e ▸ hi)
      rw [List.countP_cons, List.countP_cons, he x hx]
      omega
theorem cnt_set {L : Array Bool} {i : Nat} (hi : i < ops.size) (hL : L.getD i true = false) (hs : L.size = ops.size) : cnt ops (L.setIfInBounds i true) + 1 = cnt ops L := by
  unfold cnt
  refine countP_less _ List.nodup_range (List.mem_range.2 hi) (by rw [hL]; rfl) ?_ fun j hj => by rw [getD_set_ne true (Ne.symm hj)]
  have : i < L.size := by omega
  simp [this]
theorem cnt_pos {L : Array Bool} {i : Nat} (hi : i < ops.size) (hL : L.getD i true = false) : 0 < cnt ops L :=
  List.countP_pos_iff.2 ⟨i, List.mem_range.2 hi, by rw [hL]; rfl⟩
theorem wpAny_more {md : Region.Mode} : ∀ (n : Nat) (L : Array Bool) (a : Act) (w : World), wpAny P md ops Q n L a w → wpAny P md ops Q (n + 1) L a w
  | 0, L, a, w, h => ⟨fun _ => h.2, fun i hi => by rw [h.1] at hi; cases hi⟩
  | n + 1, L, a, w, h => ⟨h.1, fun i hi => wpOp_mono (fun a' w' h' => wpAny_more n _ a' w' h') (h.2 i hi)⟩
theorem wpAny_le {md : Region.Mode} {n m : Nat} (h : n ≤ m) {L : Array Bool} {a : Act} {w : World} (hw : wpAny P md ops Q n L a w) : wpAny P md ops Q m L a w := by
  induction h with
  | refl => exact hw
  | step _ ih => exact wpAny_more _ _ _ _ ih

/-- All but these are listed. -/
def lateL (ops : Array Oper) (late : List Nat) : Array Bool := (Array.range ops.size).map fun i => !late.contains i
def dstsIn (ops : Array Oper) (n : Nat) : Bool := (List.range ops.size).all fun i => match dstOf ops i with
  | some d => decide (d < n)
  | none => true

/-- The pointers to the new variables. -/
def putMade (ops : Array Oper) (gs : Nat → Nat) : List Made → Act → Act
  | [], a => a
  | m :: r, a => putMade ops gs r (a.put (dstOf ops m.op) (.pointer (some ⟨gs m.op, 0, none⟩)))
theorem Has.made {a0 : Act} {gs : Nat → Nat} : ∀ {made : List Made} {a : Act} {M : Nat → Value → Prop}, Has ops a0 M a → allocsOk ops (made.map (·.op)) = true → (∀ j u t, M j u → ∀ m ∈ made, dstOf ops m.op = some t → dstOf ops j ≠ some t) →
    Has ops a0 (fun j u => M j u ∨ ∃ m ∈ made, m.op = j ∧ u = .pointer (some ⟨gs j, 0, none⟩)) (putMade ops gs made a)
  | [], a, M, h, _, _ => ⟨h.defers, h.size, fun t j u hm => h.there t j u (hm.resolve_right fun ⟨m, hm, _⟩ => by cases hm), fun t ht => h.else_ t fun j u hm => ht j u (.inl hm)⟩
  | x :: r, a, M, h, hok, hd => by
    have hok0 := hok
    rw [List.map_cons] at hok
    simp only [allocsOk, Bool.and_eq_true, List.all_eq_true] at hok
    obtain ⟨hx, hr⟩ := hok
    have h1 : Has ops a0 (fun j u => M j u ∨ (j = x.op ∧ u = .pointer (some ⟨gs x.op, 0, none⟩))) (a.put (dstOf ops x.op) (.pointer (some ⟨gs x.op, 0, none⟩))) :=
      h.put (fun j u t hm ht => hd j u t hm x (List.mem_cons_self ..) ht) fun _ _ => Iff.rfl
    have h2 := Has.made (gs := gs) h1 hr (fun j u t hm m hmr ht => by
      rcases hm with hm | ⟨rfl, rfl⟩
      · exact hd j u t hm m (List.mem_cons_of_mem _ hmr) ht
      · intro e
        exact dstsApart_of (hx m.op (List.mem_map.2 ⟨m, hmr, rfl⟩)).2 e ht)
    have hiff : ∀ j u, ((M j u ∨ (j = x.op ∧ u = .pointer (some ⟨gs x.op, 0, none⟩))) ∨ ∃ m ∈ r, m.op = j ∧ u = .pointer (some ⟨gs j, 0, none⟩)) ↔ (M j u ∨ ∃ m ∈ x :: r, m.op = j ∧ u = .pointer (some ⟨gs j, 0, none⟩)) := fun j u => by
      constructor
      · rintro ((h | ⟨rfl, rfl⟩) | ⟨m, hm, rfl, rfl⟩)
        · exact .inl h
        · exact .inr ⟨x, List.mem_cons_self .., rfl, rfl⟩
        · exact .inr ⟨m, List.mem_cons_of_mem _ hm, rfl, rfl⟩
      · rintro (h | ⟨m, hm, rfl, rfl⟩)
        · exact .inl (.inl h)
        · rcases List.mem_cons.1 hm with rfl | hm
          · exact .inl (.inr ⟨rfl, rfl⟩)
          · exact .inr ⟨m, hm, rfl, rfl⟩
    exact ⟨h2.defers, h2.size, fun t j u hm => h2.there t j u ((hiff j u).2 hm), fun t ht => h2.else_ t fun j u hm => ht j u ((hiff j u).1 hm)⟩

/-- Where the region stands. -/
structure Stands (ops : Array Oper) (S : World → Prop) (B : Nat) (vs : List (Nat × Value)) (made : List Made) (late : List Nat) (a0 : Act) (gs : Nat → Nat) (L : Array Bool) (a : Act) (w : World) : Prop where
  has : Has ops a0 (fun j u => L.getD j false = true ∧ ((j, u) ∈ vs ∨ ∃ m ∈ made, m.op = j ∧ u = .pointer (some ⟨gs j, 0, none⟩))) a
  met : S w
  rows : ∀ m ∈ made, L.getD m.op false = true → B ≤ gs m.op ∧ Row w (gs m.op) m.T m.z
  apart : ∀ m ∈ made, ∀ m' ∈ made, L.getD m.op false = true → L.getD m'.op false = true → m.op ≠ m'.op → gs m.op ≠ gs m'.op
  late : ∀ s ∈ late, L.getD s true = false
  size : L.size = ops.size
  down : ∀ i o, ops[i]? = some o → L.getD i false = true → ∀ e ∈ o.after, Region.binds .any e = true → L.getD e.on false = true

theorem getD_tf {L : Array Bool} {i : Nat} (h : i < L.size) : L.getD i true = L.getD i false := by simp [h]

theorem flat_all {B : Nat} {vs : List (Nat × Value)} {made : List Made} {late : List Nat} {a0 aD : Act} {n : Nat}
    (hD : Dets P ops S vs a0 aD) (hA : ∀ m ∈ made, AllocOp P ops m) (hk1 : detsOk ops (made.map (·.op)) (vs.map (·.1)) = true) (hk2 : allocsOk ops (made.map (·.op)) = true)
    (hk3 : lateOk ops (vs.map (·.1) ++ made.map (·.op)) late = true) (hk4 : dstsIn ops a0.tmps.size = true) (hns : Region.noSelect ops = true) (hn : cnt ops (lateL ops late) = n)
    (hSB : ∀ w w', S w → Below w.heap.size w w' → S w') (hB : ∀ w, S w → B ≤ w.heap.size)
    (hend : ∀ (gs : Nat → Nat) w, S w → (∀ m ∈ made, B ≤ gs m.op ∧ Row w (gs m.op) m.T m.z) → (∀ m ∈ made, ∀ m' ∈ made, m.op ≠ m'.op → gs m.op ≠ gs m'.op) →
      wpAny P .any ops Q n (lateL ops late) (putMade ops gs made aD) w) :
    ∀ (fuel : Nat) (L : Array Bool) (a : Act) (w : World) (gs : Nat → Nat), Stands ops S B vs made late a0 gs L a w → cnt ops L ≤ fuel → wpAny P .any ops Q fuel L a w := by
  have hall := hD.all (a0 := a0) (M := fun _ _ => False) (Has.start a0) hk1 (fun _ _ _ _ _ h => h.elim) (fun _ _ _ _ h => h.elim) (fun _ _ _ _ h => h.elim)
  obtain ⟨hHD, hstep⟩ := hall
  simp only [lateOk, Bool.and_eq_true, List.all_eq_true, List.mem_range] at hk3
  obtain ⟨⟨⟨hcov, hord⟩, hlt⟩, hlate⟩ := hk3
  have hord' : ∀ i o, ops[i]? = some o → ∀ e ∈ o.after, Region.binds .any e = true → e.on < i := fun i o ho e he hb => by
    have h1 := hord i (Array.getElem?_eq_some_iff.1 ho).1
    simp only [ho, Option.map_some, Option.getD_some, Array.all_eq_true_iff_forall_mem] at h1
    have h2 := h1 e he
    simpa [hb] using h2
  have hlt' : ∀ i ∈ vs.map (·.1) ++ made.map (·.op), i < ops.size := fun i hi => by simpa using hlt i hi
  -- all but the late ones are listed
  have hdone : ∀ (L : Array Bool) (a : Act) (w : World) (gs : Nat → Nat) (fuel : Nat), Stands ops S B vs made late a0 gs L a w → (∀ x ∈ vs.map (·.1) ++ made.map (·.op), L.getD x false = true) → cnt ops L ≤ fuel → wpAny P .any ops Q fuel L a w := by
    intro L a w gs fuel hI hfull hc
    have hL : L = lateL ops late := by
      refine Array.ext_getElem? fun i => ?_
      rcases Nat.lt_or_ge i ops.size with hi | hi
      · have h1 := hcov i hi
        simp only [bne_iff_ne, ne_eq] at h1
        have h2 : L.getD i true = !late.contains i := by
          cases hc : late.contains i with
          | true => exact hI.late i (by simpa using hc)
          | false =>
            have he : (vs.map (·.1) ++ made.map (·.op)).contains i = true := by
              cases h3 : (vs.map (·.1) ++ made.map (·.op)).contains i with
              | true => rfl
              | false => exact absurd (h3.trans hc.symm) h1
            rw [getD_tf (by rw [hI.size]; exact hi)]
            exact hfull i (List.contains_iff_mem.1 he)
        have h4 : i < L.size := by rw [hI.size]; exact hi
        simp only [Array.getD_eq_getD_getElem?, Array.getElem?_eq_getElem h4, Option.getD_some] at h2
        rw [Array.getElem?_eq_getElem h4, h2]
        simp [lateL, hi]
      · rw [Array.getElem?_eq_none (by rw [hI.size]; exact hi), Array.getElem?_eq_none (by simp [lateL]; exact hi)]
    have hin : ∀ m ∈ made, L.getD m.op false = true := fun m hm => hfull _ (List.mem_append_right _ (List.mem_map.2 ⟨m, hm, rfl⟩))
    have hrun := hend gs w hI.met (fun m hm => hI.rows m hm (hin m hm)) (fun m hm m' hm' hne => hI.apart m hm m' hm' (hin m hm) (hin m' hm') hne)
    have hfin : Has ops a0 (fun j u => (False ∨ (j, u) ∈ vs) ∨ ∃ m ∈ made, m.op = j ∧ u = .pointer (some ⟨gs j, 0, none⟩)) (putMade ops gs made aD) :=
      hHD.made hk2 fun j u t hj m hm ht => by
        have := detsOk_allocs hk1 j (List.mem_map.2 ⟨(j, u), hj.resolve_left id, rfl⟩) m.op (List.mem_map.2 ⟨m, hm, rfl⟩)
        intro e
        exact dstsApart_of this.2.1 e ht
    have hiff : ∀ j u, (L.getD j false = true ∧ ((j, u) ∈ vs ∨ ∃ m ∈ made, m.op = j ∧ u = .pointer (some ⟨gs j, 0, none⟩))) ↔ ((False ∨ (j, u) ∈ vs) ∨ ∃ m ∈ made, m.op = j ∧ u = .pointer (some ⟨gs j, 0, none⟩)) := fun j u => by
      rw [false_or]
      refine ⟨fun h => h.2, fun h => ⟨?_, h⟩⟩
      rcases h with h | ⟨m, hm, rfl, _⟩
      · exact hfull j (List.mem_append_left _ (List.mem_map.2 ⟨(j, u), h, rfl⟩))
      · exact hin m hm
    have ha : a = putMade ops gs made aD := by
      have h1 := hI.has
      exact Has.eq (M := fun j u => (False ∨ (j, u) ∈ vs) ∨ ∃ m ∈ made, m.op = j ∧ u = .pointer (some ⟨gs j, 0, none⟩))
        ⟨h1.defers, h1.size, fun t j u hm => h1.there t j u ((hiff j u).2 hm), fun t ht => h1.else_ t fun j u hm => ht j u ((hiff j u).1 hm)⟩ hfin
    subst hL
    rw [ha]
    exact wpAny_le (by omega) hrun
  have hnotdone : ∀ (L : Array Bool), L.size = ops.size → ¬ (∀ x ∈ vs.map (·.1) ++ made.map (·.op), L.getD x false = true) → ∃ x, x < ops.size ∧ L.getD x true = false := by
    intro L hs hfull
    obtain ⟨x, hx⟩ := Classical.not_forall.mp hfull
    obtain ⟨hx, hf⟩ := Classical.not_imp.mp hx
    have h1 := hlt' x hx
    exact ⟨x, h1, by rw [getD_tf (by rw [hs]; exact h1)]; simpa using hf⟩
  have hready : ∀ (L : Array Bool), L.size = ops.size → ∀ x, x < ops.size → L.getD x true = false → Region.ready .any ops L ≠ [] := by
    intro L hs x
    induction x using Nat.strongRecOn with
    | _ x ihx =>
      intro hx hu hnil
      by_cases hr : ∀ e ∈ (ops[x]'hx).after, Region.binds .any e = true → L.getD e.on false = true
      · have : x ∈ Region.ready .any ops L := mem_ready.2 ⟨hu, ops[x], Array.getElem?_eq_getElem hx, hr⟩
        rw [hnil] at this
        cases this
      · obtain ⟨e, he⟩ := Classical.not_forall.mp hr
        obtain ⟨he, hb⟩ := Classical.not_imp.mp he
        obtain ⟨hb, hf⟩ := Classical.not_imp.mp hb
        have h1 := hord' x _ (Array.getElem?_eq_getElem hx) e he hb
        have h2 : e.on < ops.size := by omega
        exact ihx e.on h1 h2 (by rw [getD_tf (by rw [hs]; exact h2)]; simpa using hf) hnil
  intro fuel
  induction fuel with
  | zero =>
    intro L a w gs hI hc
    by_cases hfull : ∀ x ∈ vs.map (·.1) ++ made.map (·.op), L.getD x false = true
    · exact hdone L a w gs 0 hI hfull hc
    · obtain ⟨x, h1, h2⟩ := hnotdone L hI.size hfull
      have := cnt_pos h1 h2
      omega
  | succ fuel ih =>
    intro L a w gs hI hc
    by_cases hfull : ∀ x ∈ vs.map (·.1) ++ made.map (·.op), L.getD x false = true
    · exact hdone L a w gs (fuel + 1) hI hfull hc
    obtain ⟨x0, hx0, hu0⟩ := hnotdone L hI.size hfull
    refine ⟨fun h => absurd h (hready L hI.size x0 hx0 hu0), fun i hi => ?_⟩
    obtain ⟨hun, o, ho, hwait⟩ := mem_ready.1 hi
    have hisz : i < ops.size := (Array.getElem?_eq_some_iff.1 ho).1
    have hiL : i < L.size := by rw [hI.size]; exact hisz
    have hunf : L.getD i false = false := by rw [← getD_tf hiL]; exact hun
    have hdo : dstOf ops i = o.dst := by simp [dstOf, ho]
    -- it is none of the late ones
    have hnl : i ∉ late := by
      intro hl
      refine hfull ?_
      have hdown : ∀ k x, ops.size ≤ x + k → x ∈ vs.map (·.1) ++ made.map (·.op) → L.getD x false = true := by
        intro k
        induction k with
        | zero => intro x hk hx; have := hlt' x hx; omega
        | succ k ihk =>
          intro x hk hx
          have h1 := hlate i hl x hx
          rcases Bool.or_eq_true_iff.1 h1 with h1 | h1
          · obtain ⟨e, he, hb, rfl⟩ := waits_spec ho h1
            exact hwait e he hb
          · obtain ⟨y, hy, h2⟩ := List.any_eq_true.1 h1
            simp only [Bool.and_eq_true, decide_eq_true_eq] at h2
            have hyL := ihk y (by omega) hy
            have hys := hlt' y hy
            obtain ⟨e, he, hb, rfl⟩ := waits_spec (Array.getElem?_eq_getElem hys) h2.2
            exact hI.down y _ (Array.getElem?_eq_getElem hys) hyL e he hb
      exact fun x hx => hdown ops.size x (by omega) hx
    have hie : i ∈ vs.map (·.1) ++ made.map (·.op) := by
      have h1 := hcov i hisz
      simp only [bne_iff_ne, ne_eq] at h1
      have h2 : late.contains i = false := by simpa using hnl
      rw [h2] at h1
      cases h3 : (vs.map (·.1) ++ made.map (·.op)).contains i with
      | true => exact List.contains_iff_mem.1 h3
      | false => exact absurd h3 h1
    have hset : ∀ j, (L.setIfInBounds i true).getD j false = true ↔ L.getD j false = true ∨ j = i := fun j => by
      by_cases e : j = i
      · subst e; simp [hiL]
      · rw [getD_set_ne false (Ne.symm e)]; simp [e]
    have hlate' : ∀ s ∈ late, (L.setIfInBounds i true).getD s true = false := fun s hs => by
      have hne : i ≠ s := fun e => hnl (by rw [e]; exact hs)
      rw [getD_set_ne true hne]
      exact hI.late s hs
    have hdown' : ∀ j oj, ops[j]? = some oj → (L.setIfInBounds i true).getD j false = true → ∀ e ∈ oj.after, Region.binds .any e = true → (L.setIfInBounds i true).getD e.on false = true := fun j oj hoj hj e he hb => by
      rw [hset] at hj ⊢
      rcases hj with hj | rfl
      · exact .inl (hI.down j oj hoj hj e he hb)
      · rw [ho] at hoj; cases hoj
        exact .inl (hwait e he hb)
    have hcnt : cnt ops (L.setIfInBounds i true) ≤ fuel := by
      have := cnt_set hisz hun hI.size
      omega
    -- the values that stand are those of others
    have hothers : ∀ j u t, (L.getD j false = true ∧ ((j, u) ∈ vs ∨ ∃ m ∈ made, m.op = j ∧ u = .pointer (some ⟨gs j, 0, none⟩))) → dstOf ops i = some t → dstOf ops j ≠ some t := by
      intro j u t ⟨hj, hju⟩ ht
      have hne : j ≠ i := fun e => by rw [e, hunf] at hj; cases hj
      rcases List.mem_append.1 hie with hiv | him
      · rcases hju with hv | ⟨m, hm, rfl, _⟩
        · exact detsOk_apart hk1 i hiv j (List.mem_map.2 ⟨(j, u), hv, rfl⟩) (Ne.symm hne) t ht
        · exact dstsApart_of (detsOk_allocs hk1 i hiv m.op (List.mem_map.2 ⟨m, hm, rfl⟩)).2.1 ht
      · rcases hju with hv | ⟨m, hm, rfl, _⟩
        · intro e
          exact dstsApart_of (detsOk_allocs hk1 j (List.mem_map.2 ⟨(j, u), hv, rfl⟩) i him).2.1 e ht
        · exact allocsOk_apart hk2 i him m.op (List.mem_map.2 ⟨m, hm, rfl⟩) (Ne.symm hne) t ht
    unfold wpOp
    simp only [ho]
    rcases List.mem_append.1 hie with hiv | him
    · -- an operation that gives its value
      obtain ⟨⟨i', v⟩, hiv', rfl⟩ := List.mem_map.1 hiv
      simp only at *
      obtain ⟨o', ai, N, ho', hg, hN, hN1, hN2, hN3⟩ := hstep i' v hiv'
      rw [ho] at ho'
      cases ho'
      have hsame : ∀ t, t ∈ o.looksAt ops → a.tmps[t]? = ai.tmps[t]? := by
        intro t ht
        refine hI.has.congr hN ?_
        by_cases he : ∃ j u, N j u ∧ dstOf ops j = some t
        · obtain ⟨j, u, hnj, hj⟩ := he
          have hw := hN2 j u hnj (dstSeen_of ho ht hj)
          obtain ⟨e, he, hb, rfl⟩ := waits_spec ho hw
          exact .inl ⟨_, u, ⟨hwait e he hb, .inl ((hN1 _ u hnj).resolve_left id)⟩, hnj, hj⟩
        · have hno : ∀ j u, N j u → dstOf ops j ≠ some t := fun j u hm hj => he ⟨j, u, hm, hj⟩
          refine .inr ⟨fun j u hm hj => ?_, hno⟩
          obtain ⟨hjL, hju⟩ := hm
          have hsn := dstSeen_of ho ht hj
          rcases hju with hv | ⟨m, hm, rfl, _⟩
          · rcases hN3 j u (.inr hv) hsn with h | h
            · exact hno j u h hj
            · have hjs : j < ops.size := hlt' j (List.mem_append_left _ (List.mem_map.2 ⟨(j, u), hv, rfl⟩))
              obtain ⟨e, he, hb, h1⟩ := waits_spec (Array.getElem?_eq_getElem hjs) h
              have := hI.down j _ (Array.getElem?_eq_getElem hjs) hjL e he hb
              rw [h1, hunf] at this
              cases this
          · have := (detsOk_allocs hk1 i' hiv m.op (List.mem_map.2 ⟨m, hm, rfl⟩)).2.2
            rw [hsn] at this
            cases this
      have hhas : Has ops a0 (fun j u => (L.setIfInBounds i' true).getD j false = true ∧ ((j, u) ∈ vs ∨ ∃ m ∈ made, m.op = j ∧ u = .pointer (some ⟨gs j, 0, none⟩))) (a.put o.dst v) := by
        refine hdo ▸ hI.has.put hothers fun j u => ?_
        rw [hset]
        constructor
        · rintro ⟨hj | rfl, hju⟩
          · exact .inl ⟨hj, hju⟩
          · rcases hju with hv | ⟨m, hm, he, _⟩
            · exact .inr ⟨rfl, detsOk_unique hk1 hv hiv'⟩
            · exact absurd he (detsOk_allocs hk1 j hiv m.op (List.mem_map.2 ⟨m, hm, rfl⟩)).1
        · rintro (⟨hj, hju⟩ | ⟨rfl, rfl⟩)
          · exact ⟨.inl hj, hju⟩
          · exact ⟨.inr rfl, .inl hiv'⟩
      have hmk : ∀ m ∈ made, m.op ≠ i' := fun m hm => (detsOk_allocs hk1 i' hiv m.op (List.mem_map.2 ⟨m, hm, rfl⟩)).1
      have hnext : ∀ w', Below w.heap.size w w' → wpAny P .any ops Q fuel (L.setIfInBounds i' true) (a.put o.dst v) w' := fun w' hb => by
        refine ih _ _ w' gs ⟨hhas, hSB w w' hI.met hb, fun m hm hj => ?_, fun m hm m' hm' hj hj' => ?_, hlate', by simp [hI.size], hdown'⟩ hcnt
        · have h1 := ((hset _).1 hj).resolve_right (hmk m hm)
          exact ⟨(hI.rows m hm h1).1, (hI.rows m hm h1).2.belowAll hb⟩
        · exact hI.apart m hm m' hm' (((hset _).1 hj).resolve_right (hmk m hm)) (((hset _).1 hj').resolve_right (hmk m' hm'))
      rw [wanted_same hsame]
      rcases hg with ⟨hw, hg⟩ | ⟨hw, rfl⟩
      · rw [if_pos hw]
        refine .inl ?_
        have hd : ∀ d, o.dst = some d → d < ai.tmps.size := fun d hd => by
          have h1 := (List.all_eq_true.1 hk4) i' (List.mem_range.2 hisz)
          rw [hdo, hd] at h1
          rw [hN.size]
          simpa using h1
        refine Oper.wp_mono (fun a' w' h => ?_) (hg.wp (Q := Q) (exec_same (Region.noSelect_spec hns i' o · · ho) hsame) hd hI.met)
        obtain ⟨rfl, hb⟩ := h
        exact hnext w' hb
      · rw [if_neg (by rw [hw]; decide)]
        exact hnext w (Below.refl _ _)
    · -- a new variable
      obtain ⟨m, hm, rfl⟩ := List.mem_map.1 him
      obtain ⟨o', ho', hgd, hrun⟩ := hA m hm
      rw [ho] at ho'
      cases ho'
      have hw : Region.wanted o (yielded ops a.tmps) = true := by simp [Region.wanted, hgd]
      rw [if_pos hw]
      refine .inl ?_
      unfold Oper.wp
      rw [hrun]
      show wpAny P .any ops Q fuel (L.setIfInBounds m.op true) (a.put o.dst (.pointer (some ⟨w.heap.size, 0, none⟩))) (w.alloc (.cells m.z.toArray m.T))
      have hb : Below w.heap.size w (w.alloc (.cells m.z.toArray m.T)) := (Below.refl _ _).alloc (Nat.le_refl _) _
      have hgs : ∀ j, j ≠ m.op → (fun j => if j = m.op then w.heap.size else gs j) j = gs j := fun j hj => if_neg hj
      have hne : ∀ j, L.getD j false = true → j ≠ m.op := fun j hj e => by rw [e, hunf] at hj; cases hj
      refine ih _ _ _ (fun j => if j = m.op then w.heap.size else gs j) ⟨?_, hSB w _ hI.met hb, fun m' hm' hj => ?_, fun m' hm' m'' hm'' hj hj' hnn => ?_, hlate', by simp [hI.size], hdown'⟩ hcnt
      · refine hdo ▸ hI.has.put hothers fun j u => ?_
        rw [hset]
        constructor
        · rintro ⟨hj | rfl, hju⟩
          · left
            refine ⟨hj, ?_⟩
            rcases hju with hv | ⟨m', hm', rfl, he⟩
            · exact .inl hv
            · simp only [if_neg (hne _ hj)] at he
              exact .inr ⟨m', hm', rfl, he⟩
          · right
            refine ⟨rfl, ?_⟩
            rcases hju with hv | ⟨m', hm', he0, he⟩
            · exact absurd rfl (detsOk_allocs hk1 m.op (List.mem_map.2 ⟨(m.op, u), hv, rfl⟩) m.op him).1
            · simpa using he
        · rintro (⟨hj, hju⟩ | ⟨rfl, rfl⟩)
          · refine ⟨.inl hj, ?_⟩
            rcases hju with hv | ⟨m', hm', rfl, he⟩
            · exact .inl hv
            · exact .inr ⟨m', hm', rfl, by simp only [if_neg (hne _ hj)]; exact he⟩
          · exact ⟨.inr rfl, .inr ⟨m, hm, rfl, by simp⟩⟩
      · rcases (hset _).1 hj with h1 | h1
        · simp only [if_neg (hne _ h1)]
          exact ⟨(hI.rows m' hm' h1).1, (hI.rows m' hm' h1).2.belowAll hb⟩
        · obtain rfl := allocsOk_unique hk2 m' hm' m hm h1
          simp only [if_true]
          exact ⟨hB w hI.met, Row.new w _ _⟩
      · rcases (hset _).1 hj with h1 | h1 <;> rcases (hset _).1 hj' with h2 | h2
        · simp only [if_neg (hne _ h1), if_neg (hne _ h2)]
          exact hI.apart m' hm' m'' hm'' h1 h2 hnn
        · simp only [if_neg (hne _ h1), h2, if_true]
          have := (hI.rows m' hm' h1).2.lt
          omega
        · simp only [if_neg (hne _ h2), h1, if_true]
          have := (hI.rows m'' hm'' h2).2.lt
          omega
        · exact absurd (h1.trans h2.symm) hnn

/-- A region that draws its order: what it does, whatever the order. -/
theorem wp_flat {id : Nat} {B : Nat} {vs : List (Nat × Value)} {made : List Made} {late : List Nat} {a0 aD : Act} {w0 : World} {n : Nat} (hm : P.follows .mixedOrders = true) (hS : S w0.drew)
    (hD : Dets P ops S vs a0 aD) (hA : ∀ m ∈ made, AllocOp P ops m) (hk1 : detsOk ops (made.map (·.op)) (vs.map (·.1)) = true) (hk2 : allocsOk ops (made.map (·.op)) = true)
    (hk3 : lateOk ops (vs.map (·.1) ++ made.map (·.op)) late = true) (hk4 : dstsIn ops a0.tmps.size = true) (hns : Region.noSelect ops = true) (hn : cnt ops (lateL ops late) = n) (hk5 : late.all (fun s => decide (s < ops.size)) = true)
    (hSB : ∀ w w', S w → Below w.heap.size w w' → S w') (hB : ∀ w, S w → B ≤ w.heap.size)
    (hend : ∀ (gs : Nat → Nat) w, S w → (∀ m ∈ made, B ≤ gs m.op ∧ Row w (gs m.op) m.T m.z) → (∀ m ∈ made, ∀ m' ∈ made, m.op ≠ m'.op → gs m.op ≠ gs m'.op) →
      wpAny P .any ops Q n (lateL ops late) (putMade ops gs made aD) w) : (Code.region id ops true).wp P Q a0 w0 := by
  refine wp_region_any hm ?_
  have hnone : ∀ j, (Array.replicate ops.size false).getD j false = false := fun j => by
    by_cases h : j < ops.size <;> simp [h]
  refine flat_all hD hA hk1 hk2 hk3 hk4 hns hn hSB hB hend ops.size _ a0 _ (fun _ => 0) ⟨?_, hS, fun m _ h => ?_, fun m _ m' _ h => ?_, fun s hs => ?_, by simp, fun i o _ h => ?_⟩ ?_
  · exact ⟨rfl, rfl, fun t j u h => (by rw [hnone] at h; cases h.1), fun _ _ => rfl⟩
  · rw [hnone] at h; cases h
  · rw [hnone] at h; cases h
  · have h1 := (List.all_eq_true.1 hk5) s hs
    have h2 : s < ops.size := by simpa using h1
    simp [h2]
  · rw [hnone] at h; cases h
  · unfold cnt
    exact Nat.le_trans List.countP_le_length (by simp)

/-- The same, where nothing is new and nothing late. -/
theorem wp_flat_none {id : Nat} {vs : List (Nat × Value)} {a0 aD : Act} {w0 : World} (hm : P.follows .mixedOrders = true) (hS : S w0.drew) (hSB : ∀ w w', S w → Below w.heap.size w w' → S w')
    (hD : Dets P ops S vs a0 aD) (hk : (detsOk ops [] (vs.map (·.1)) && lateOk ops (vs.map (·.1)) [] && dstsIn ops a0.tmps.size && Region.noSelect ops) = true)
    (hend : ∀ w, S w → Q .normal aD w) : (Code.region id ops true).wp P Q a0 w0 := by
  simp only [Bool.and_eq_true] at hk
  obtain ⟨⟨⟨k1, k3⟩, k4⟩, k5⟩ := hk
  refine wp_flat (B := 0) (made := []) (late := []) hm hS hD (fun m h => by cases h) k1 rfl (by simpa using k3) k4 k5 rfl rfl hSB (fun _ _ => Nat.zero_le _) fun gs w hS' _ _ => ?_
  have hr : Region.ready .any ops (lateL ops []) = [] := by
    refine List.eq_nil_iff_forall_not_mem.2 fun i hi => ?_
    obtain ⟨h1, o, ho, _⟩ := mem_ready.1 hi
    have h2 : i < ops.size := (Array.getElem?_eq_some_iff.1 ho).1
    simp [lateL, h2] at h1
  exact wpAny_le (Nat.zero_le _) ⟨hr, hend w hS'⟩

theorem all_listed {s : Nat} : Region.ready .any ops ((lateL ops [s]).setIfInBounds s true) = [] := by
  refine List.eq_nil_iff_forall_not_mem.2 fun i hi => ?_
  obtain ⟨h1, o, ho, _⟩ := mem_ready.1 hi
  have h2 : i < ops.size := (Array.getElem?_eq_some_iff.1 ho).1
  by_cases e : s = i
  · subst e
    simp [lateL, h2] at h1
  · rw [getD_set_ne true e] at h1
    have e' : ¬ i = s := fun x => e x.symm
    simp [lateL, h2, e'] at h1
theorem wpAny_late {s : Nat} {os : Oper} {a : Act} {w : World} (hr : Region.ready .any ops (lateL ops [s]) = [s]) (hos : ops[s]? = some os) (hgd : os.guard = none)
    (h : os.wp P a w (fun a' w' => Q .normal a' w') Q) : wpAny P .any ops Q 1 (lateL ops [s]) a w := by
  refine ⟨fun e => (by rw [hr] at e; cases e), fun i hi => ?_⟩
  rw [hr] at hi
  obtain rfl := List.mem_singleton.1 hi
  unfold wpOp
  simp only [hos]
  rw [if_pos (by simp [Region.wanted, hgd])]
  exact .inl (Oper.wp_mono (fun a' w' h' => ⟨all_listed, h'⟩) h)

/-- The same, where one operation, at the end, waits for all others. -/
theorem wp_flat_late {id : Nat} {vs : List (Nat × Value)} {a0 aD : Act} {w0 : World} {s : Nat} {os : Oper} (hm : P.follows .mixedOrders = true) (hS : S w0.drew) (hSB : ∀ w w', S w → Below w.heap.size w w' → S w')
    (hD : Dets P ops S vs a0 aD) (hk : (detsOk ops [] (vs.map (·.1)) && lateOk ops (vs.map (·.1)) [s] && dstsIn ops a0.tmps.size && Region.noSelect ops && (cnt ops (lateL ops [s]) == 1) && (Region.ready .any ops (lateL ops [s]) == [s])) = true)
    (hos : ops[s]? = some os) (hgd : os.guard = none) (hend : ∀ w, S w → os.wp P aD w (fun a' w' => Q .normal a' w') Q) : (Code.region id ops true).wp P Q a0 w0 := by
  simp only [Bool.and_eq_true, beq_iff_eq] at hk
  obtain ⟨⟨⟨⟨⟨k1, k3⟩, k4⟩, k5⟩, k6⟩, k7⟩ := hk
  have hsz : s < ops.size := (Array.getElem?_eq_some_iff.1 hos).1
  exact wp_flat (B := 0) (made := []) (late := [s]) hm hS hD (fun m h => by cases h) k1 rfl (by simpa using k3) k4 k5 k6 (by simpa using hsz) hSB (fun _ _ => Nat.zero_le _) fun gs w hS' _ _ => wpAny_late k7 hos hgd (hend w hS')

/-- The same, where one variable is new, and one operation, at the end, waits for all others. -/
theorem wp_flat_new {id : Nat} {B : Nat} {vs : List (Nat × Value)} {a0 aD : Act} {w0 : World} {k s : Nat} {os : Oper} {T : TypeId} {z : List Value} (hm : P.follows .mixedOrders = true) (hS : S w0.drew) (hSB : ∀ w w', S w → Below w.heap.size w w' → S w') (hB : ∀ w, S w → B ≤ w.heap.size)
    (hD : Dets P ops S vs a0 aD) (hA : AllocOp P ops ⟨k, T, z⟩)
    (hk : (detsOk ops [k] (vs.map (·.1)) && lateOk ops (vs.map (·.1) ++ [k]) [s] && dstsIn ops a0.tmps.size && Region.noSelect ops && (cnt ops (lateL ops [s]) == 1) && (Region.ready .any ops (lateL ops [s]) == [s])) = true)
    (hos : ops[s]? = some os) (hgd : os.guard = none) (hend : ∀ g w, S w → B ≤ g → Row w g T z → os.wp P (aD.put (dstOf ops k) (.pointer (some ⟨g, 0, none⟩))) w (fun a' w' => Q .normal a' w') Q) : (Code.region id ops true).wp P Q a0 w0 := by
  simp only [Bool.and_eq_true, beq_iff_eq] at hk
  obtain ⟨⟨⟨⟨⟨k1, k3⟩, k4⟩, k5⟩, k6⟩, k7⟩ := hk
  have hsz : s < ops.size := (Array.getElem?_eq_some_iff.1 hos).1
  refine wp_flat (B := B) (made := [⟨k, T, z⟩]) (late := [s]) hm hS hD (fun m h => by rw [List.mem_singleton.1 h]; exact hA) k1 rfl k3 k4 k5 k6 (by simpa using hsz) hSB hB fun gs w hS' hrows _ => ?_
  have h1 := hrows ⟨k, T, z⟩ (List.mem_singleton.2 rfl)
  exact wpAny_late k7 hos hgd (hend _ w hS' h1.1 h1.2)

/-- A value of one part. -/
theorem exec_build1 {o : Oper} {a : Act} {w : World} (T : TypeId) (x : Operand) (ho : o.op = .build T #[(0, x)]) (u v : Value) (hx : a.eval x = u) (hrun : (Instr.build T #[(0, u)]).run P w = .ok v w) :
    (execOp a.eval o).run P w = .ok (.value v) w := by
  unfold execOp
  simp only [ho, Sem.run_bind, Sem.run_pure, List.map_toArray, List.map_cons, List.map_nil, hx, hrun, Result.andThen_ok]
theorem wpList_build1 {rest : List Oper} {o : Oper} {a : Act} {w : World} (hgd : o.guard = none) (T : TypeId) (x : Operand) (ho : o.op = .build T #[(0, x)]) (u v : Value) (hx : a.eval x = u)
    (hrun : (Instr.build T #[(0, u)]).run P w = .ok v w) (h : wpList P ops Q rest (a.put o.dst v) w) : wpList P ops Q (o :: rest) a w := by
  refine wpList_plain hgd fun _ hK => ?_
  unfold Oper.wp
  rw [exec_build1 T x ho u v hx hrun]
  exact hK _ _ h
theorem wp_build1 {o : Oper} {a : Act} {w : World} {K : Act → World → Prop} (T : TypeId) (x : Operand) (ho : o.op = .build T #[(0, x)]) (u v : Value) (hx : a.eval x = u)
    (hrun : (Instr.build T #[(0, u)]).run P w = .ok v w) (h : K (a.put o.dst v) w) : o.wp P a w K Q := by
  unfold Oper.wp
  rw [exec_build1 T x ho u v hx hrun]
  exact h

end
end

section
open Go.RowKit

section
variable {P : Program} (w : World)
theorem run_part_int {e : TypeId} {k : IntKind} (he : P.underlying e = some (.int k)) (xs : Array Value) (j : Nat) (v : Value) (h : xs[j]? = some v) : (part e xs j).run P w = .ok v w := by
  have hi : (isAgg e).run P w = .ok false w := by
    simp [isAgg, run_underlying he]
  simp [part, hi, h]

theorem run_eqItems_ints (d : Nat) {e : TypeId} {k : IntKind} (he : P.underlying e = some (.int k)) (xs ys : List Int) : ∀ (is : List Nat), (∀ i ∈ is, i < xs.length ∧ i < ys.length) →
    (Op.eqItems (d + 1) e 1 (xs.map (Value.int k)).toArray (ys.map (Value.int k)).toArray is).run P w = .ok (is.all fun i => xs[i]? == ys[i]?) w
  | [], _ => by simp [Op.eqItems]
  | i :: is, h => by
    obtain ⟨hx, hy⟩ := h i (by simp)
    have hr := run_eqItems_ints d he xs ys is (fun j hj => h j (by simp [hj]))
    have px := run_part_int w he (xs.map (Value.int k)).toArray i (.int k xs[i]) (by simp [hx])
    have py := run_part_int w he (ys.map (Value.int k)).toArray i (.int k ys[i]) (by simp [hy])
    have pe := run_equalIn_int w d e k k xs[i] ys[i] he
    simp only [Op.eqItems, Nat.mul_one, Sem.run_bind, px, py, pe, Result.andThen_ok, List.all_cons]
    rw [List.getElem?_eq_getElem hx, List.getElem?_eq_getElem hy]
    cases hb : (xs[i] == ys[i])
    · simp_all
    · simp_all

theorem run_equalIn_ints (d : Nat) {t e : TypeId} {n : Nat} {i : TypeInfo} {k : IntKind} (hu : P.underlying t = some (.array n e)) (hi : P.info? e = some i) (he : P.underlying e = some (.int k)) (hc : P.cellsOf e = 1)
    (xs ys : List Int) (hx : xs.length = n) (hy : ys.length = n) :
    (Op.equalIn (d + 2) t (.agg (xs.map (Value.int k)).toArray) (.agg (ys.map (Value.int k)).toArray)).run P w = .ok (decide (xs = ys)) w := by
  rw [show d + 2 = (d + 1) + 1 from rfl, run_equalIn_array w (d + 1) _ _ hu hi, hc, run_eqItems_ints w d he xs ys _ (fun i hi => by have := List.mem_range.1 hi; omega)]
  congr 1
  rw [Bool.eq_iff_iff, List.all_eq_true, decide_eq_true_iff]
  constructor
  · intro h
    refine List.ext_getElem? fun i => ?_
    by_cases hin : i < n
    · exact eq_of_beq (h i (List.mem_range.2 hin))
    · rw [List.getElem?_eq_none (by omega), List.getElem?_eq_none (by omega)]
  · rintro rfl i _
    simp

/-- Two rows of naturals. -/
theorem run_eql_nats {t e : TypeId} {n : Nat} {i : TypeInfo} {k : IntKind} (hu : P.underlying t = some (.array n e)) (hi : P.info? e = some i) (he : P.underlying e = some (.int k)) (hc : P.cellsOf e = 1)
    (xs ys : List Nat) (hx : xs.length = n) (hy : ys.length = n) :
    (binOp .eql t (.agg (xs.map fun x => Value.int k ((x : Nat) : Int)).toArray) (.agg (ys.map fun x => Value.int k ((x : Nat) : Int)).toArray)).run P w = .ok (.bool (decide (xs = ys))) w := by
  have h := run_equalIn_ints w 9998 hu hi he hc (xs.map fun x : Nat => (x : Int)) (ys.map fun x : Nat => (x : Int)) (by simpa using hx) (by simpa using hy)
  rw [List.map_map, List.map_map] at h
  rw [run_eql_struct]
  have e1 : (Op.equalIn 10000 t (.agg (xs.map fun x => Value.int k ((x : Nat) : Int)).toArray) (.agg (ys.map fun x => Value.int k ((x : Nat) : Int)).toArray)).run P w = .ok (decide (xs.map (fun x : Nat => (x : Int)) = ys.map (fun x : Nat => (x : Int)))) w := h
  rw [e1]
  simp only [Result.andThen_ok]
  congr 2
  rw [Bool.eq_iff_iff, decide_eq_true_iff, decide_eq_true_iff]
  constructor
  · intro h
    exact (List.map_inj_right (fun a b hab => by have : (a : Int) = b := hab; omega)).1 h
  · rintro rfl; rfl
theorem run_neq_nats {t e : TypeId} {n : Nat} {i : TypeInfo} {k : IntKind} (hu : P.underlying t = some (.array n e)) (hi : P.info? e = some i) (he : P.underlying e = some (.int k)) (hc : P.cellsOf e = 1)
    (xs ys : List Nat) (hx : xs.length = n) (hy : ys.length = n) :
    (binOp .neq t (.agg (xs.map fun x => Value.int k ((x : Nat) : Int)).toArray) (.agg (ys.map fun x => Value.int k ((x : Nat) : Int)).toArray)).run P w = .ok (.bool (!decide (xs = ys))) w := by
  have h := run_eql_nats w hu hi he hc xs ys hx hy
  rw [run_eql_struct] at h
  rw [run_neq_struct]
  cases hr : (Op.equalIn 10000 t (.agg (xs.map fun x => Value.int k ((x : Nat) : Int)).toArray) (.agg (ys.map fun x => Value.int k ((x : Nat) : Int)).toArray)).run P w with
  | ok b w' =>
    rw [hr] at h
    simp only [Result.andThen_ok] at h ⊢
    injection h with h1 h2
    injection h1 with h1
    rw [h1, h2]
  | halt x w' => rw [hr] at h; simp [Result.andThen] at h
/-- A comparison, by its two runs. -/
theorem wpList_binop {ops : Array Oper} {rest : List Oper} {o : Oper} {a : Act} {Q : Exit → Act → World → Prop} (op : BinOp) (T T2 : TypeId) (x y : Operand) (ho : o.op = .binOp op T x y T2) (hw : Region.wanted o (yielded ops a.tmps) = true)
    (u v r : Value) (hx : a.eval x = u) (hy : a.eval y = v) (hg : (eqGuard op T x y u v).run P w = .ok () w) (hb : (binOp op T u v).run P w = .ok r w) (h : wpList P ops Q rest (a.put o.dst r) w) : wpList P ops Q (o :: rest) a w := by
  refine BigFrame.wpList_want hw fun K hK => ?_
  unfold Oper.wp execOp
  simp only [ho, Sem.run_bind, Sem.run_pure, Result.andThen_ok, hx, hy, hg, hb]
  exact hK _ _ h
theorem Tabs_map (K : IntKind) (f : Nat → Nat) (n : Nat) : Tabs K f n = ((List.range n).map f).map fun x => Value.int K ((x : Nat) : Int) := by
  simp [Tabs]
end
end

section
open Go.RowKit

theorem run_index_int {P : Program} (w : World) {t e : TypeId} {n : Nat} {i : TypeInfo} {k : IntKind} (hu : P.underlying t = some (.array n e)) (hi : P.info? e = some i) (hs : i.size = 1) (he : P.underlying e = some (.int k))
    (cs : Array Value) (j : Nat) (hj : j < n) (v : Value) (h : cs[j]? = some v) : (Instr.index t (.agg cs) (.int .i64 (j : Int))).run P w = .ok v w := by
  have hp := run_part_int w he cs j v h
  have hj' : (j : Int) < (n : Int) := by omega
  simp [Instr.index, run_underlying hu, asIntOf, hj, sizeOf, typeInfo, hi, hs, hp]
end

end Go.Proofs.YtkjhmplnamaoaaaGreatDoor
