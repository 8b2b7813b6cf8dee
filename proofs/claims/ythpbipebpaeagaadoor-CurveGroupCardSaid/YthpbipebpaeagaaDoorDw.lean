/- Bytes of numbers as cells; rows that are new, stored whole; a row and a slot as results. Over any program. Digits of 32 bits, as one reckons by hand: plain arithmetic. -/
import Derived.Test.YthpbipebpaeagaaDoorRowz
import Derived.Test.YthpbipebpaeagaaDoorNumb
import Derived.Test.YthpbipebpaeagaaDoorRows
import Derived.Deep.MidRow
import Derived.Deep.CutRange
import Derived.Deep.CutBlock
import Derived.RegionTactic
import Derived.Lib.Hide
import Derived.IntWalk
namespace Go.Proofs.YthpbipebpaeagaaDoor
section
open Go.RowKit

/-- A number's first bytes; their cells. -/
def By (N n : Nat) : List Value := Tabs .u8 (byt N) n
theorem By_length (N n : Nat) : (By N n).length = n := Tabs_length ..
theorem By_get (N n : Nat) {k : Nat} (hk : k < n) : (By N n)[k]? = some (.int .u8 ((byt N k : Nat) : Int)) := Tabs_get _ _ _ hk
theorem By_one (N n : Nat) : (By N n).toArray.all (·.oneCell') = true := Tabs_one ..
theorem By_ext {l : List Value} (N n : Nat) (hl : l.length = n) (h : ∀ k, k < n → l[k]? = some (.int .u8 ((byt N k : Nat) : Int))) : l = By N n := by
  refine List.ext_getElem? fun k => ?_
  by_cases hk : k < n
  · rw [h k hk, By_get N n hk]
  · rw [List.getElem?_eq_none (by omega), List.getElem?_eq_none (by rw [By_length]; omega)]

/-- The first bytes of a number, as a number. -/
theorem mod_byte (N k : Nat) : N % 256 ^ (k + 1) = N % 256 ^ k + byt N k * 256 ^ k := by
  rw [Nat.pow_succ, Nat.mod_mul, Nat.mul_comm (256 ^ k)]
  unfold byt
  rw [← pow256]


theorem results_row_slot {P : Program} {fn : Func} {p q : Tmp} {ty : TypeId} (h : fn.results = #[.cell p ty, .tmp q]) (tmps : Array Value) (w : World) (g : Nat) (t : TypeId) (cs : Array Value) (fr : Nat × Nat) (d : TypeDesc) (v : Value)
    (hp : tmps.getD p undef = .pointer (some ⟨g, 0, none⟩)) (hg : w.heap[g]? = some (.cells cs t fr))
    (hu : P.underlying ty = some d) (hd : (match d with | .struct _ | .array _ _ => true | _ => false) = true) (hi : (P.info? ty).map (·.size) = some cs.size) (hv : tmps.getD q undef = v) :
    (results fn tmps).run P w = .ok (.tuple #[.agg cs, v]) w := by
  have hp' : tmps[p]?.getD undef = .pointer (some ⟨g, 0, none⟩) := by simpa using hp
  have hv' : tmps[q]?.getD undef = v := by simpa using hv
  simp [results, h, hp', hv', asAddr, run_loadVar_row w g t ty cs fr d hg hu hd hi]

theorem Row.new1 (w : World) (X : Obj) (l : List Value) (T : TypeId) : Row ((w.alloc X).alloc (.cells l.toArray T)) (w.heap.size + 1) T l := heap_alloc2_new _ _ _
theorem Row.new2 (w : World) (X Y : Obj) (l : List Value) (T : TypeId) : Row (((w.alloc X).alloc Y).alloc (.cells l.toArray T)) (w.heap.size + 1 + 1) T l := by
  have h := Row.new ((w.alloc X).alloc Y) l T
  rwa [show ((w.alloc X).alloc Y).heap.size = w.heap.size + 1 + 1 by simp] at h
theorem Row.new3 (w : World) (X Y Z : Obj) (l : List Value) (T : TypeId) : Row ((((w.alloc X).alloc Y).alloc Z).alloc (.cells l.toArray T)) (w.heap.size + 1 + 1 + 1) T l := by
  have h := Row.new (((w.alloc X).alloc Y).alloc Z) l T
  rwa [show (((w.alloc X).alloc Y).alloc Z).heap.size = w.heap.size + 1 + 1 + 1 by simp] at h
theorem Below.alloc2 (w : World) (X Y : Obj) : Below w.heap.size w ((w.alloc X).alloc Y) := ((Below.refl _ _).alloc (Nat.le_refl _) _).alloc (by simp) _
theorem Below.alloc3 (w : World) (X Y Z : Obj) : Below w.heap.size w (((w.alloc X).alloc Y).alloc Z) := (Below.alloc2 w X Y).alloc (by simp; omega) _
theorem Below.alloc4 (w : World) (X Y Z V : Obj) : Below w.heap.size w ((((w.alloc X).alloc Y).alloc Z).alloc V) := (Below.alloc3 w X Y Z).alloc (by simp; omega) _


theorem Row.setRow {w : World} {g : Nat} {T : TypeId} {l : List Value} (h : Row w g T l) (m : List Value) : Row (w.setRow g m.toArray) g T m := setRow_heap w g _ _ _ _ h
theorem Row.setRowOther {w : World} {g k : Nat} {T : TypeId} {l : List Value} (h : Row w g T l) (hk : g ≠ k) (m : Array Value) : Row (w.setRow k m) g T l := (setRow_other w k g m hk).trans h


theorem Row.range {w : World} {g : Nat} {T : TypeId} {l : List Value} (h : Row w g T l) : w.rangeAt g 0 l := by
  intro j v hv
  rw [Nat.zero_add]
  exact h.cell hv
theorem By_nat (N n : Nat) : By N n = ((List.range n).map (byt N)).map fun x => .int .u8 ((x : Nat) : Int) := by simp [By, Tabs]
theorem byts_lt (N n : Nat) : ∀ x ∈ (List.range n).map (byt N), x < 256 := by
  intro x hx
  obtain ⟨i, _, rfl⟩ := List.mem_map.1 hx
  exact byt_lt N i
end

section
open Go.RowKit

/-- A digit of 32 bits. -/
def dw (N i : Nat) : Nat := N / 4294967296 ^ i % 4294967296
theorem dw_lt (N i : Nat) : dw N i < 4294967296 := Nat.mod_lt _ (by decide)
theorem dw_succ (N i : Nat) : N / 4294967296 ^ i = 4294967296 * (N / 4294967296 ^ (i + 1)) + dw N i := by
  unfold dw
  rw [Nat.pow_succ, ← Nat.div_div_eq_div_mul]
  omega
theorem dw_of_lt {N i : Nat} (h : N < 4294967296 ^ i) : dw N i = 0 := by
  unfold dw
  rw [Nat.div_eq_of_lt h, Nat.zero_mod]
theorem dw_of_lt' {N n i : Nat} (h : N < 4294967296 ^ n) (hi : n ≤ i) : dw N i = 0 := dw_of_lt (Nat.lt_of_lt_of_le h (Nat.pow_le_pow_right (by decide) hi))
theorem cmq_same {A B i : Nat} (h : A / 4294967296 ^ (i + 1) = B / 4294967296 ^ (i + 1)) (he : dw A i = dw B i) : A / 4294967296 ^ i = B / 4294967296 ^ i := by
  rw [dw_succ A, dw_succ B, h, he]
theorem cmq_less {A B i : Nat} (h : A / 4294967296 ^ (i + 1) = B / 4294967296 ^ (i + 1)) (hne : dw A i ≠ dw B i) : decide (dw A i < dw B i) = decide (A < B) := by
  have ha := dw_succ A i
  have hb := dw_succ B i
  rw [h] at ha
  have hlt : ∀ {X Y : Nat}, X / 4294967296 ^ i < Y / 4294967296 ^ i → X < Y := fun {X Y} hq => by
    rcases Nat.lt_or_ge X Y with h1 | h1
    · exact h1
    · exact absurd (Nat.div_le_div_right (c := 4294967296 ^ i) h1) (by omega)
  by_cases hl : dw A i < dw B i
  · rw [decide_eq_true hl, decide_eq_true (hlt (by omega))]
  · have : B < A := hlt (by omega)
    rw [decide_eq_false hl, decide_eq_false (by omega)]

/-- The borrow ahead of a digit. -/
def brq (A B k : Nat) : Nat := if A % 4294967296 ^ k < B % 4294967296 ^ k then 1 else 0
theorem brq_le (A B k : Nat) : brq A B k ≤ 1 := by unfold brq; split <;> omega
theorem brq_zero (A B : Nat) : brq A B 0 = 0 := by
  unfold brq
  rw [Nat.pow_zero, Nat.mod_one, Nat.mod_one, if_neg (by omega)]
theorem mod_dw (N k : Nat) : N % 4294967296 ^ (k + 1) = N % 4294967296 ^ k + 4294967296 ^ k * dw N k := by
  rw [Nat.pow_succ, Nat.mod_mul]
  rfl
theorem brq_succ (A B k : Nat) : brq A B (k + 1) = if dw A k < dw B k + brq A B k then 1 else 0 := by
  have h : (A % 4294967296 ^ (k + 1) < B % 4294967296 ^ (k + 1)) ↔ (dw A k < dw B k + brq A B k) := by
    rw [mod_dw, mod_dw, lt_lex (Nat.mod_lt A (Nat.pow_pos (by decide))) (Nat.mod_lt B (Nat.pow_pos (by decide)))]
    unfold brq
    split <;> omega
  show (if A % 4294967296 ^ (k + 1) < B % 4294967296 ^ (k + 1) then 1 else 0) = _
  simp only [h]
/-- The carry ahead of a digit; the sum's digits. -/
def cyq (A B k : Nat) : Nat := (A % 4294967296 ^ k + B % 4294967296 ^ k) / 4294967296 ^ k
theorem cyq_zero (A B : Nat) : cyq A B 0 = 0 := by
  unfold cyq
  rw [Nat.pow_zero, Nat.mod_one, Nat.mod_one]
theorem pW (k : Nat) : 0 < 4294967296 ^ k := Nat.pow_pos (by decide)
theorem cyq_le (A B k : Nat) : cyq A B k ≤ 1 := by
  unfold cyq
  have h1 := Nat.mod_lt A (pW k)
  have h2 := Nat.mod_lt B (pW k)
  have : (A % 4294967296 ^ k + B % 4294967296 ^ k) / 4294967296 ^ k < 2 := (Nat.div_lt_iff_lt_mul (pW k)).2 (by omega)
  omega
theorem sum_dw (A B k : Nat) : dw A k + dw B k + cyq A B k = dw (A + B) k + 4294967296 * cyq A B (k + 1) := by
  have e : (A + B) / 4294967296 ^ k = cyq A B k + A / 4294967296 ^ k + B / 4294967296 ^ k := by
    have h1 : A + B = A % 4294967296 ^ k + B % 4294967296 ^ k + 4294967296 ^ k * (A / 4294967296 ^ k + B / 4294967296 ^ k) := by
      rw [Nat.mul_add]
      have := Nat.mod_add_div A (4294967296 ^ k)
      have := Nat.mod_add_div B (4294967296 ^ k)
      omega
    rw [h1, Nat.add_mul_div_left _ _ (pW k)]
    unfold cyq
    omega
  have e2 : (A + B) / 4294967296 ^ (k + 1) = cyq A B (k + 1) + A / 4294967296 ^ (k + 1) + B / 4294967296 ^ (k + 1) := by
    have h1 : A + B = A % 4294967296 ^ (k + 1) + B % 4294967296 ^ (k + 1) + 4294967296 ^ (k + 1) * (A / 4294967296 ^ (k + 1) + B / 4294967296 ^ (k + 1)) := by
      rw [Nat.mul_add]
      have := Nat.mod_add_div A (4294967296 ^ (k + 1))
      have := Nat.mod_add_div B (4294967296 ^ (k + 1))
      omega
    rw [h1, Nat.add_mul_div_left _ _ (pW (k + 1))]
    unfold cyq
    omega
  have h3 := dw_succ (A + B) k
  have h4 := dw_succ A k
  have h5 := dw_succ B k
  omega
theorem dif_dw {A B D : Nat} (h : D + B = A) (k : Nat) : dw D k + dw B k + brq A B k = dw A k + 4294967296 * brq A B (k + 1) := by
  have hc : ∀ j, cyq D B j = brq A B j := fun j => by
    subst h
    unfold cyq brq
    have ha := Nat.mod_lt D (pW j)
    have hb := Nat.mod_lt B (pW j)
    rw [Nat.add_mod]
    generalize D % 4294967296 ^ j = d at *
    generalize B % 4294967296 ^ j = b at *
    generalize 4294967296 ^ j = m at *
    by_cases hlt : d + b < m
    · rw [Nat.mod_eq_of_lt hlt, Nat.div_eq_of_lt hlt, if_neg (by omega)]
    · have e : d + b = (d + b - m) + m := by omega
      have e1 : (d + b) % m = d + b - m := by rw [e, Nat.add_mod_right, Nat.mod_eq_of_lt (by omega)]; omega
      have e2 : (d + b) / m = 1 := by rw [e, Nat.add_div_right _ (by omega), Nat.div_eq_of_lt (by omega)]
      rw [e1, e2, if_pos (by omega)]
  have hs := sum_dw D B k
  rw [hc, hc, h] at hs
  exact hs

/-- Digits: the first ones of one number, the others of another one. -/
def mixq (D A k i : Nat) : Nat := if i < k then dw D i else dw A i
theorem mixq_zero (D A n : Nat) : Tabs .u32 (mixq D A 0) n = Tabs .u32 (dw A) n := Tabs_congr _ fun i _ => by unfold mixq; rw [if_neg (by omega)]
theorem mixq_all (D A n : Nat) : Tabs .u32 (mixq D A n) n = Tabs .u32 (dw D) n := Tabs_congr _ fun i h => by unfold mixq; rw [if_pos h]
theorem mixq_set (D A n : Nat) {k : Nat} (hk : k < n) : (Tabs .u32 (mixq D A k) n).set k (.int .u32 ((dw D k : Nat) : Int)) = Tabs .u32 (mixq D A (k + 1)) n := by
  refine List.ext_getElem? fun j => ?_
  by_cases hj : j < n
  · rw [List.getElem?_set, Tabs_get _ _ _ hj, Tabs_get _ _ _ hj]
    unfold mixq
    by_cases e : k = j
    · subst e; rw [if_pos rfl, if_pos (by rw [Tabs_length]; exact hk), if_pos (by omega)]
    · rw [if_neg e]
      by_cases h2 : j < k
      · rw [if_pos h2, if_pos (by omega)]
      · rw [if_neg h2, if_neg (by omega)]
  · rw [List.getElem?_eq_none (by rw [List.length_set, Tabs_length]; omega), List.getElem?_eq_none (by rw [Tabs_length]; omega)]
theorem Tabs_snoc (K : IntKind) (f : Nat → Nat) (n : Nat) : Tabs K f (n + 1) = Tabs K f n ++ [.int K ((f n : Nat) : Int)] := by
  unfold Tabs
  rw [List.range_succ, List.map_append]
  rfl
theorem Tabs_ones (K : IntKind) (f : Nat → Nat) (n : Nat) : ∀ u ∈ Tabs K f n, u.oneCell' = true := by
  intro v hv
  simp only [Tabs, List.mem_map] at hv
  obtain ⟨i, _, rfl⟩ := hv
  rfl
end

end Go.Proofs.YthpbipebpaeagaaDoor
