/- Values and schemas as trees: what their cells say, however deep they are; what a row's reading of an argument gives. What is right, how deep it is, what fits, what the default is: plain functions on trees; nothing of a program. Arrays of integers as rows of cells: over any program. -/
import Derived.Test.YtmiadkhfjkaidaaGreatDoorMg1
import Derived.Test.YtmiadkhfjkaidaaGreatDoorRows
import Derived.ChangeSame
import Derived.Deep.Strs
import Derived.SliceStrings
import Derived.ChangeSlices
import GoSem.Op.String
import Derived.Laws.Rows
import Derived.Laws.Tables
import Derived.Laws.CopyOwn
import Derived.Below
namespace Go.Proofs.YtmiadkhfjkaidaaGreatDoor
section
set_option maxRecDepth 100000
open Go.RowKit Go.ChangeShapes

/-- A value: its kind, its number, its text, its names, its elements' numbers, its parts. -/
inductive Vt where
  | nul
  | mk (kind n : Int) (s : ByteArray) (names : List ByteArray) (ids : List Int) (len : Nat) (parts : Nat → Vt)
/-- A schema: its kind, its words, its parts. -/
inductive St where
  | nul
  | mk (kind : Int) (words : List ByteArray) (len : Nat) (parts : Nat → St)

/-- Rows of cells, n of them, of size s each, one behind the other. -/
def Parts (w : World) (s : Nat) (c : Option Addr) (n : Nat) (css : Nat → List Value) : Prop :=
  0 < n → ∃ ad, c = some ad ∧ ad.block < w.heap.size ∧ ∀ j, j < n → (css j).length = s ∧ ∀ i u, (css j)[i]? = some u → w.cell? (ad.add (j * s + i)) = some u
theorem Parts.below {w w' : World} {s n : Nat} {c : Option Addr} {css : Nat → List Value} (h : Parts w s c n css) (hb : Below w.heap.size w w') : Parts w' s c n css := fun hn => by
  obtain ⟨ad, e, hlt, hc⟩ := h hn
  exact ⟨ad, e, Nat.lt_of_lt_of_le hlt hb.size, fun j hj => ⟨(hc j hj).1, fun i u hu => (hb.cell (p := ad.add (j * s + i)) (by rw [add_block]; exact hlt)).trans ((hc j hj).2 i u hu)⟩⟩

inductive VAt (w : World) : Vt → List Value → Prop
  | mk {k n : Int} {s : ByteArray} {names : List ByteArray} {ids : List Int} {len : Nat} {parts : Nat → Vt} {a b c : Option Addr} {la ca lb cb cc : Nat} (css : Nat → List Value)
      (hk : (Lit.int .i64 k).wf = true) (hn : (Lit.int .i64 n).wf = true) (hs : s.size ≤ maxLen)
      (h1 : Rd w (fun _ => True) a la (names.map Value.string)) (h1c : la ≤ ca ∧ ca ≤ maxLen) (hss : ∀ x ∈ names, x.size ≤ maxLen)
      (h2 : Rd w (fun _ => True) b lb (ids.map (Value.int .u64))) (h2c : lb ≤ cb ∧ cb ≤ maxLen) (hi : ∀ x ∈ ids, (Lit.int .u64 x).wf = true)
      (h3 : Parts w 6 c len css) (h3c : len ≤ cc ∧ cc ≤ maxLen) (h : ∀ j, j < len → VAt w (parts j) (css j)) :
      VAt w (.mk k n s names ids len parts) [.int .i64 k, .int .i64 n, .string s, .slice a la ca, .slice b lb cb, .slice c len cc]
inductive SAt (w : World) : St → List Value → Prop
  | mk {k : Int} {words : List ByteArray} {len : Nat} {parts : Nat → St} {a c : Option Addr} {la ca cc : Nat} (css : Nat → List Value)
      (hk : (Lit.int .i64 k).wf = true)
      (h1 : Rd w (fun _ => True) a la (words.map Value.string)) (h1c : la ≤ ca ∧ ca ≤ maxLen) (hss : ∀ x ∈ words, x.size ≤ maxLen)
      (h3 : Parts w 3 c len css) (h3c : len ≤ cc ∧ cc ≤ maxLen) (h : ∀ j, j < len → SAt w (parts j) (css j)) :
      SAt w (.mk k words len parts) [.int .i64 k, .slice a la ca, .slice c len cc]
theorem VAt.length {w : World} {v : Vt} {cs : List Value} (h : VAt w v cs) : cs.length = 6 := by cases h; rfl
theorem SAt.length {w : World} {v : St} {cs : List Value} (h : SAt w v cs) : cs.length = 3 := by cases h; rfl
theorem VAt.later {w w' : World} (hb : Below w.heap.size w w') : ∀ {v : Vt} {cs : List Value}, VAt w v cs → VAt w' v cs := by
  intro v cs h
  induction h with
  | mk css hk hn hs h1 h1c hss h2 h2c hi h3 h3c _ ih => exact .mk css hk hn hs (h1.belowAll hb) h1c hss (h2.belowAll hb) h2c hi (h3.below hb) h3c ih
theorem SAt.later {w w' : World} (hb : Below w.heap.size w w') : ∀ {v : St} {cs : List Value}, SAt w v cs → SAt w' v cs := by
  intro v cs h
  induction h with
  | mk css hk h1 h1c hss h3 h3c _ ih => exact .mk css hk (h1.belowAll hb) h1c hss (h3.below hb) h3c ih

section
variable {H : Type} {enc : TypeId × Value → H} {P : Program} {w : World} {base : Nat} {spare : Nat → Bool} {held : Bool}
theorem read_int {t : TypeId} {k : IntKind} {fuel : Nat} {cs : List Value} {x : DataW H × List MemPlace} (ht : P.underlying t = some (.int k)) (h : DataW.trod enc P w base spare held fuel t cs = some x) : ∃ n, cs = [.int k n] ∧ (Lit.int k n).wf = true := by
  cases fuel with
  | zero => simp [DataW.trod] at h
  | succ m =>
    unfold DataW.trod at h
    rw [ht] at h
    split at h <;> simp_all
theorem read_str {t : TypeId} {fuel : Nat} {cs : List Value} {x : DataW H × List MemPlace} (ht : P.underlying t = some .string) (h : DataW.trod enc P w base spare held fuel t cs = some x) : ∃ s, cs = [.string s] ∧ s.size ≤ maxLen := by
  cases fuel with
  | zero => simp [DataW.trod] at h
  | succ m =>
    unfold DataW.trod at h
    rw [ht] at h
    split at h <;> simp_all
theorem read_strs {t e : TypeId} {fuel : Nat} {cs : List Value} {x : DataW H × List MemPlace} (ht : P.underlying t = some (.slice e)) (he : P.underlying e = some .string) (hc : P.cellsOf e = 1) (h : DataW.trod enc P w base spare held fuel t cs = some x) :
    ∃ (a : Option Addr) (len cap : Nat) (l : List ByteArray), cs = [.slice a len cap] ∧ Rd w (fun _ => True) a len (l.map Value.string) ∧ (len ≤ cap ∧ cap ≤ maxLen) ∧ ∀ s ∈ l, s.size ≤ maxLen := by
  rcases open_strings ht he hc h with ⟨rfl, _⟩ | ⟨a, len, cap, ss, rfl, _, hl, hm, hlen, _, hcell, hsz⟩
  · exact ⟨none, 0, 0, [], rfl, Rd.nil _ _ _, ⟨Nat.le_refl _, Nat.zero_le _⟩, fun _ h => by cases h⟩
  · have hle : len ≤ ss.length := by rw [hlen]; split <;> omega
    refine ⟨some a, len, cap, ss.take len, rfl, ⟨by simp; omega, fun hn => ?_⟩, ⟨hl, hm⟩, fun s hs => hsz s (List.mem_of_mem_take hs)⟩
    have hb : a.block < w.heap.size := by
      have := lt_of_cell (hcell 0 (by omega))
      rwa [add_block] at this
    refine ⟨a, rfl, trivial, hb, fun j u hu => ?_⟩
    have hj : j < len := by
      have := (List.getElem?_eq_some_iff.1 hu).1
      simp at this
      omega
    rw [hcell j (by omega), ← hu, List.getElem?_map, List.getElem?_take, if_pos hj, List.getD, List.getElem?_eq_getElem (by omega)]
    rfl
theorem read_ints {t e : TypeId} {k : IntKind} {fuel : Nat} {cs : List Value} {x : DataW H × List MemPlace} (ht : P.underlying t = some (.slice e)) (he : P.underlying e = some (.int k)) (hc : P.cellsOf e = 1) (h : DataW.trod enc P w base spare held fuel t cs = some x) :
    ∃ (a : Option Addr) (len cap : Nat) (l : List Int), cs = [.slice a len cap] ∧ Rd w (fun _ => True) a len (l.map (Value.int k)) ∧ (len ≤ cap ∧ cap ≤ maxLen) ∧ ∀ n ∈ l, (Lit.int k n).wf = true := by
  rcases open_ints ht he hc h with ⟨rfl, _⟩ | ⟨a, len, cap, ss, rfl, _, hl, hm, hlen, _, hcell, hsz⟩
  · exact ⟨none, 0, 0, [], rfl, Rd.nil _ _ _, ⟨Nat.le_refl _, Nat.zero_le _⟩, fun _ h => by cases h⟩
  · have hle : len ≤ ss.length := by rw [hlen]; split <;> omega
    refine ⟨some a, len, cap, ss.take len, rfl, ⟨by simp; omega, fun hn => ?_⟩, ⟨hl, hm⟩, fun s hs => hsz s (List.mem_of_mem_take hs)⟩
    have hb : a.block < w.heap.size := by
      have := lt_of_cell (hcell 0 (by omega))
      rwa [add_block] at this
    refine ⟨a, rfl, trivial, hb, fun j u hu => ?_⟩
    have hj : j < len := by
      have := (List.getElem?_eq_some_iff.1 hu).1
      simp at this
      omega
    rw [hcell j (by omega), ← hu, List.getElem?_map, List.getElem?_take, if_pos hj, List.getD, List.getElem?_eq_getElem (by omega)]
    rfl
/-- A slice of rows of cells, whose reading is known. -/
theorem read_parts {t e : TypeId} {s fuel : Nat} {cs : List Value} {x : DataW H × List MemPlace} {T : Type} (R : T → List Value → Prop) (ht : P.underlying t = some (.slice e)) (hc : P.cellsOf e = s) (hs : 0 < s) (d0 : T)
    (hR : ∀ m, m < fuel → ∀ cs' x', cs'.length = s → DataW.trod enc P w base spare held m e cs' = some x' → ∃ v, R v cs') (h : DataW.trod enc P w base spare held fuel t cs = some x) :
    ∃ (c : Option Addr) (len cap : Nat) (css : Nat → List Value) (parts : Nat → T), cs = [.slice c len cap] ∧ Parts w s c len css ∧ (len ≤ cap ∧ cap ≤ maxLen) ∧ ∀ j, j < len → R (parts j) (css j) := by
  rcases DataW.trod_slice ht h with ⟨rfl, _⟩ | ⟨a, len, cap, elems, rest, n, hf, rfl, _, _, hl, hm, hlen, hel, _, _⟩
  · exact ⟨none, 0, 0, fun _ => [], fun _ => d0, rfl, fun h => absurd h (by decide), ⟨Nat.le_refl _, Nat.zero_le _⟩, fun j h => absurd h (Nat.not_lt_zero _)⟩
  · have hone : ∀ j, j < len → ∃ q : List Value × T, w.cells? base (a.add (j * s)) s = some q.1 ∧ R q.2 q.1 := fun j hj => by
      have h1 := hel j hj
      rw [hc, List.getElem?_eq_getElem (by omega)] at h1
      obtain ⟨cs', h2, h3⟩ := Option.bind_eq_some_iff.1 h1
      obtain ⟨v, hv⟩ := hR n (by omega) cs' _ (World.cells?_some h2).2.1 h3
      exact ⟨(cs', v), h2, hv⟩
    refine ⟨some a, len, cap, fun j => if hj : j < len then (hone j hj).choose.1 else [], fun j => if hj : j < len then (hone j hj).choose.2 else d0, rfl, fun hn => ⟨a, rfl, ?_, fun j hj => ?_⟩, ⟨hl, hm⟩, fun j hj => ?_⟩
    · have h1 := World.cells?_block (hone 0 hn).choose_spec.1 hs
      rwa [add_block] at h1
    · simp only [dif_pos hj]
      obtain ⟨_, h1, h2⟩ := World.cells?_some (hone j hj).choose_spec.1
      refine ⟨h1, fun i u hu => ?_⟩
      have hi : i < s := by
        have := (List.getElem?_eq_some_iff.1 hu).1
        omega
      rw [← add_add, h2 i hi, hu]
    · simp only [dif_pos hj]
      exact (hone j hj).choose_spec.2
end

theorem read_field {α : Type} {xs : List α} {n k : Nat} {f : Option α} (hlen : xs.length = n) (h : f = xs[k]?) (hk : k < n) : ∃ x, f = some x := ⟨_, h.trans (List.getElem?_eq_getElem (by omega))⟩
theorem six {cs : List Value} (h : cs.length = 6) : ∃ a b c d e f, cs = [a, b, c, d, e, f] := by
  match cs, h with
  | [a, b, c, d, e, f], _ => exact ⟨a, b, c, d, e, f, rfl⟩
theorem three {cs : List Value} (h : cs.length = 3) : ∃ a b c, cs = [a, b, c] := by
  match cs, h with
  | [a, b, c], _ => exact ⟨a, b, c, rfl⟩
theorem c_int : Tryz.prog.cellsOf 3 = 1 := by kernel_rfl
theorem c_str : Tryz.prog.cellsOf 9 = 1 := by kernel_rfl
theorem c_u64 : Tryz.prog.cellsOf 23 = 1 := by kernel_rfl
theorem c_strs : Tryz.prog.cellsOf 24 = 1 := by kernel_rfl
theorem c_ids : Tryz.prog.cellsOf 25 = 1 := by kernel_rfl
theorem c_vals : Tryz.prog.cellsOf 26 = 1 := by kernel_rfl
theorem c_val : Tryz.prog.cellsOf 28 = 6 := by kernel_rfl
theorem c_schs : Tryz.prog.cellsOf 46 = 1 := by kernel_rfl
theorem c_sch : Tryz.prog.cellsOf 48 = 3 := by kernel_rfl
/-- What a reading of a value says. -/
theorem vat_of {H : Type} {enc : TypeId × Value → H} {w : World} {base : Nat} {spare : Nat → Bool} {held : Bool} : ∀ (fuel : Nat) (cs : List Value) (x : DataW H × List MemPlace), DataW.trod enc Tryz.prog w base spare held fuel 28 cs = some x → ∃ v, VAt w v cs := by
  intro fuel
  induction fuel using Nat.strongRecOn with
  | _ fuel ih =>
    intro cs x h
    obtain ⟨xs, n, rfl, _, hl, hlen, hf⟩ := DataW.trod_struct Tryz.underlying28 h
    rw [c_val] at hl
    obtain ⟨c0, c1, c2, c3, c4, c5, rfl⟩ := six hl
    obtain ⟨x0, h0⟩ := read_field hlen (hf 0 { name := "Kind", type := 3, offset := 0, embedded := false, tag := "", pkgPath := "", byteOffset := 0 } rfl) (by decide)
    obtain ⟨x1, h1⟩ := read_field hlen (hf 1 { name := "N", type := 3, offset := 1, embedded := false, tag := "", pkgPath := "", byteOffset := 8 } rfl) (by decide)
    obtain ⟨x2, h2⟩ := read_field hlen (hf 2 { name := "S", type := 9, offset := 2, embedded := false, tag := "", pkgPath := "", byteOffset := 16 } rfl) (by decide)
    obtain ⟨x3, h3⟩ := read_field hlen (hf 3 { name := "Names", type := 24, offset := 3, embedded := false, tag := "", pkgPath := "", byteOffset := 32 } rfl) (by decide)
    obtain ⟨x4, h4⟩ := read_field hlen (hf 4 { name := "Ids", type := 25, offset := 4, embedded := false, tag := "", pkgPath := "", byteOffset := 56 } rfl) (by decide)
    obtain ⟨x5, h5⟩ := read_field hlen (hf 5 { name := "Parts", type := 26, offset := 5, embedded := false, tag := "", pkgPath := "", byteOffset := 80 } rfl) (by decide)
    simp only [c_int, c_str, c_strs, c_ids, c_vals, List.drop_zero, List.drop_succ_cons, List.take_succ_cons, List.take_zero] at h0 h1 h2 h3 h4 h5
    obtain ⟨k, e0, hk⟩ := read_int Tryz.underlying3 h0
    obtain ⟨m, e1, hm⟩ := read_int Tryz.underlying3 h1
    obtain ⟨s, e2, hs⟩ := read_str Tryz.underlying9 h2
    obtain ⟨a, la, ca, names, e3, r3, l3, b3⟩ := read_strs Tryz.underlying24 Tryz.underlying9 c_str h3
    obtain ⟨b, lb, cb, ids, e4, r4, l4, b4⟩ := read_ints Tryz.underlying25 Tryz.underlying23 c_u64 h4
    obtain ⟨c, lc, cc, css, parts, e5, r5, l5, b5⟩ := read_parts (VAt w) Tryz.underlying26 c_val (by decide) .nul (fun m hm cs' x' _ hx => ih m (by omega) cs' x' hx) h5
    injection e0 with e0; injection e1 with e1; injection e2 with e2; injection e3 with e3; injection e4 with e4; injection e5 with e5
    subst e0 e1 e2 e3 e4 e5
    exact ⟨_, .mk css hk hm hs r3 l3 b3 r4 l4 b4 r5 l5 b5⟩
theorem sat_of {H : Type} {enc : TypeId × Value → H} {w : World} {base : Nat} {spare : Nat → Bool} {held : Bool} : ∀ (fuel : Nat) (cs : List Value) (x : DataW H × List MemPlace), DataW.trod enc Tryz.prog w base spare held fuel 48 cs = some x → ∃ v, SAt w v cs := by
  intro fuel
  induction fuel using Nat.strongRecOn with
  | _ fuel ih =>
    intro cs x h
    obtain ⟨xs, n, rfl, _, hl, hlen, hf⟩ := DataW.trod_struct Tryz.underlying48 h
    rw [c_sch] at hl
    obtain ⟨c0, c1, c2, rfl⟩ := three hl
    obtain ⟨x0, h0⟩ := read_field hlen (hf 0 { name := "Kind", type := 3, offset := 0, embedded := false, tag := "", pkgPath := "", byteOffset := 0 } rfl) (by decide)
    obtain ⟨x1, h1⟩ := read_field hlen (hf 1 { name := "Words", type := 24, offset := 1, embedded := false, tag := "", pkgPath := "", byteOffset := 8 } rfl) (by decide)
    obtain ⟨x2, h2⟩ := read_field hlen (hf 2 { name := "Parts", type := 46, offset := 2, embedded := false, tag := "", pkgPath := "", byteOffset := 32 } rfl) (by decide)
    simp only [c_int, c_strs, c_schs, List.drop_zero, List.drop_succ_cons, List.take_succ_cons, List.take_zero] at h0 h1 h2
    obtain ⟨k, e0, hk⟩ := read_int Tryz.underlying3 h0
    obtain ⟨a, la, ca, names, e1, r1, l1, b1⟩ := read_strs Tryz.underlying24 Tryz.underlying9 c_str h1
    obtain ⟨c, lc, cc, css, parts, e2, r2, l2, b2⟩ := read_parts (SAt w) Tryz.underlying46 c_sch (by decide) .nul (fun m hm cs' x' _ hx => ih m (by omega) cs' x' hx) h2
    injection e0 with e0; injection e1 with e1; injection e2 with e2
    subst e0 e1 e2
    exact ⟨_, .mk css hk r1 l1 b1 r2 l2 b2⟩
end

section
/-- A byte of a text, as a number. -/
def sat (s : ByteArray) (i : Nat) : Nat := (s.data.toList.getD i 0).toNat
def letB (c : Nat) : Bool := (decide (97 ≤ c) && decide (c ≤ 122)) || (decide (48 ≤ c) && decide (c ≤ 57)) || decide (c = 95)
def nameB (s : ByteArray) : Bool := decide (1 ≤ s.size) && decide (s.size ≤ 12) && (List.range s.size).all fun i => letB (sat s i)
def eqS (a b : ByteArray) : Bool := a.toList == b.toList
def ltS (a b : ByteArray) : Bool := Go.Op.bytesLess a.toList b.toList
def nth (l : List ByteArray) (i : Nat) : ByteArray := l.getD i ByteArray.empty
/-- Names, each behind the one before. -/
def riseB (l : List ByteArray) : Bool := (List.range l.length).all fun i => nameB (nth l i) && (decide (i = 0) || ltS (nth l (i - 1)) (nth l i))
/-- Names, unlike each other. -/
def wordsB (l : List ByteArray) : Bool := (List.range l.length).all fun i => nameB (nth l i) && (List.range i).all fun j => !eqS (nth l i) (nth l j)
def idsB (l : List Int) : Bool := (List.range l.length).all fun i => decide (l.getD i 0 ≠ 0) && (List.range i).all fun j => decide (l.getD i 0 ≠ l.getD j 0)
def eqL (l m : List ByteArray) : Bool := decide (l.length = m.length) && (List.range l.length).all fun i => eqS (nth l i) (nth m i)

/-- What a value's own fields have to be. -/
def headV (k n : Int) (s : ByteArray) (names : List ByteArray) (ids : List Int) (len : Nat) : Bool :=
  if k = 1 then decide (n = 0 ∨ n = 1) && decide (s.size = 0) && decide (names.length = 0) && decide (ids.length = 0) && decide (len = 0)
  else if k = 2 then decide (s.size = 0) && decide (names.length = 0) && decide (ids.length = 0) && decide (len = 0)
  else if k = 3 then decide (n = 0) && decide (s.size ≤ 64) && decide (names.length = 0) && decide (ids.length = 0) && decide (len = 0)
  else if k = 4 then decide (n = 0) && nameB s && decide (names.length = 0) && decide (ids.length = 0) && decide (len = 0)
  else if k = 5 then decide (n = 0) && decide (s.size = 0) && decide (ids.length = 0) && decide (names.length ≤ 8) && decide (len = names.length) && riseB names
  else if k = 6 then decide (n = 0) && decide (s.size = 0) && decide (names.length = 0) && decide (ids.length ≤ 12) && decide (len = ids.length) && idsB ids
  else false
/-- What a schema's own fields have to be. -/
def headS (k : Int) (words : List ByteArray) (len : Nat) : Bool :=
  if k = 1 ∨ k = 2 ∨ k = 3 then decide (words.length = 0) && decide (len = 0)
  else if k = 4 then decide (1 ≤ words.length) && decide (words.length ≤ 8) && wordsB words && decide (len = 0)
  else if k = 5 then decide (words.length ≤ 8) && decide (len = words.length) && riseB words
  else if k = 6 then decide (words.length = 0) && decide (len = 1)
  else false
/-- The greatest of the first ones. -/
def most (f : Nat → Nat) : Nat → Nat
  | 0 => 0
  | n + 1 => max (most f n) (f n)
theorem most_le {f : Nat → Nat} {m : Nat} : ∀ {n : Nat}, most f n ≤ m ↔ ∀ i, i < n → f i ≤ m
  | 0 => ⟨fun _ i h => absurd h (Nat.not_lt_zero i), fun _ => Nat.zero_le _⟩
  | n + 1 => by
    rw [most, Nat.max_le, most_le (n := n)]
    refine ⟨fun h i hi => ?_, fun h => ⟨fun i hi => h i (by omega), h n (by omega)⟩⟩
    rcases Nat.lt_or_ge i n with h1 | h1
    · exact h.1 i h1
    · obtain rfl : i = n := by omega
      exact h.2
def Vt.depth : Vt → Nat
  | .nul => 0
  | .mk _ _ _ _ _ len parts => most (fun i => (parts i).depth) len + 1
def St.depth : St → Nat
  | .nul => 0
  | .mk _ _ len parts => most (fun i => (parts i).depth) len + 1
def Vt.sound : Vt → Bool
  | .nul => false
  | .mk k n s names ids len parts => headV k n s names ids len && (List.range len).all fun i => (parts i).sound
def St.sound : St → Bool
  | .nul => false
  | .mk k words len parts => headS k words len && (List.range len).all fun i => (parts i).sound
/-- Right, where it lies so deep. -/
def Vt.rightAt (v : Vt) (d : Nat) : Bool := decide (d + v.depth ≤ 6) && v.sound
def St.rightAt (v : St) (d : Nat) : Bool := decide (d + v.depth ≤ 6) && v.sound
theorem Vt.rightAt_mk {k n : Int} {s : ByteArray} {names : List ByteArray} {ids : List Int} {len : Nat} {parts : Nat → Vt} (d : Nat) :
    (Vt.mk k n s names ids len parts).rightAt d = (decide (d ≤ 5) && headV k n s names ids len && (List.range len).all fun i => (parts i).rightAt (d + 1)) := by
  unfold Vt.rightAt
  rw [Vt.depth, Vt.sound, Bool.eq_iff_iff]
  simp only [Bool.and_eq_true, decide_eq_true_eq, List.all_eq_true, List.mem_range]
  constructor
  · rintro ⟨h1, h2, h3⟩
    have h4 : most (fun i => (parts i).depth) len ≤ 5 - d := by omega
    exact ⟨⟨by omega, h2⟩, fun i hi => ⟨by have := most_le.1 h4 i hi; omega, h3 i hi⟩⟩
  · rintro ⟨⟨h1, h2⟩, h3⟩
    have h4 : most (fun i => (parts i).depth) len ≤ 5 - d := most_le.2 fun i hi => by have := (h3 i hi).1; omega
    exact ⟨by omega, h2, fun i hi => (h3 i hi).2⟩
theorem St.rightAt_mk {k : Int} {words : List ByteArray} {len : Nat} {parts : Nat → St} (d : Nat) :
    (St.mk k words len parts).rightAt d = (decide (d ≤ 5) && headS k words len && (List.range len).all fun i => (parts i).rightAt (d + 1)) := by
  unfold St.rightAt
  rw [St.depth, St.sound, Bool.eq_iff_iff]
  simp only [Bool.and_eq_true, decide_eq_true_eq, List.all_eq_true, List.mem_range]
  constructor
  · rintro ⟨h1, h2, h3⟩
    have h4 : most (fun i => (parts i).depth) len ≤ 5 - d := by omega
    exact ⟨⟨by omega, h2⟩, fun i hi => ⟨by have := most_le.1 h4 i hi; omega, h3 i hi⟩⟩
  · rintro ⟨⟨h1, h2⟩, h3⟩
    have h4 : most (fun i => (parts i).depth) len ≤ 5 - d := most_le.2 fun i hi => by have := (h3 i hi).1; omega
    exact ⟨by omega, h2, fun i hi => (h3 i hi).2⟩
/-- Whether a value fits a schema, both being right. -/
def fitsV : Vt → St → Bool
  | .mk k _ s names _ len parts, .mk k' words _ parts' =>
    decide (k = k') && (if k = 4 then (List.range words.length).any fun i => eqS (nth words i) s
      else if k = 5 then eqL names words && (List.range len).all fun i => fitsV (parts i) (parts' i)
      else if k = 6 then (List.range len).all fun i => fitsV (parts i) (parts' 0)
      else true)
  | _, _ => false
/-- A schema's default. -/
def St.dflt : St → Vt
  | .nul => .nul
  | .mk k words _ parts => .mk k 0 (if k = 4 then nth words 0 else ByteArray.empty) (if k = 5 then words else []) [] (if k = 5 then words.length else 0) fun i => (parts i).dflt

theorem eqS_refl (a : ByteArray) : eqS a a = true := by unfold eqS; exact beq_self_eq_true _
theorem eqL_refl (l : List ByteArray) : eqL l l = true := by
  unfold eqL
  rw [decide_eq_true rfl, Bool.true_and, List.all_eq_true]
  exact fun i _ => eqS_refl _
theorem nameB_sz {s : ByteArray} (h : nameB s = true) : s.size ≤ 12 := by
  unfold nameB at h
  simp only [Bool.and_eq_true, decide_eq_true_eq] at h
  exact h.1.2
theorem riseB_name {l : List ByteArray} (h : riseB l = true) {i : Nat} (hi : i < l.length) : nameB (nth l i) = true := by
  unfold riseB at h
  have h1 := List.all_eq_true.1 h i (List.mem_range.2 hi)
  rw [Bool.and_eq_true] at h1
  exact h1.1
theorem wordsB_name {l : List ByteArray} (h : wordsB l = true) {i : Nat} (hi : i < l.length) : nameB (nth l i) = true := by
  unfold wordsB at h
  have h1 := List.all_eq_true.1 h i (List.mem_range.2 hi)
  rw [Bool.and_eq_true] at h1
  exact h1.1
theorem sz0 : ByteArray.empty.size = 0 := rfl
/-- The default of what is sound is so, no deeper, and fits. -/
theorem dflt_ok : ∀ {s : St}, s.sound = true → s.dflt.sound = true ∧ s.dflt.depth ≤ s.depth ∧ fitsV s.dflt s = true := by
  intro s
  induction s with
  | nul => intro h; cases h
  | mk k words len parts ih =>
    intro h
    rw [St.sound, Bool.and_eq_true, List.all_eq_true] at h
    obtain ⟨h1, h2⟩ := h
    have hp : ∀ i, i < len → (parts i).sound = true := fun i hi => h2 i (List.mem_range.2 hi)
    unfold headS at h1
    rw [St.dflt]
    by_cases c3 : k = 1 ∨ k = 2 ∨ k = 3
    · have e4 : ¬ k = 4 := by omega
      have e5 : ¬ k = 5 := by omega
      have e6 : ¬ k = 6 := by omega
      simp only [if_neg e4, if_neg e5]
      refine ⟨?_, by rw [Vt.depth, St.depth, most]; omega, by rw [fitsV, if_neg e4, if_neg e5, if_neg e6, decide_eq_true rfl]; rfl⟩
      rw [Vt.sound, List.range_zero, List.all_nil, Bool.and_true, headV]
      rcases c3 with rfl | rfl | rfl <;> decide
    · rw [if_neg c3] at h1
      by_cases e4 : k = 4
      · subst e4
        rw [if_pos rfl] at h1
        simp only [Bool.and_eq_true, decide_eq_true_eq] at h1
        rw [if_pos rfl, if_neg (show ¬ (4 : Int) = 5 by decide), if_neg (show ¬ (4 : Int) = 5 by decide)]
        refine ⟨?_, by rw [Vt.depth, St.depth, most]; omega, ?_⟩
        · rw [Vt.sound, List.range_zero, List.all_nil, Bool.and_true, headV, wordsB_name h1.1.2 (by omega), if_neg (by decide), if_neg (by decide), if_neg (by decide), if_pos rfl]
          rfl
        · rw [fitsV, decide_eq_true rfl, if_pos rfl, Bool.true_and, List.any_eq_true]
          exact ⟨0, List.mem_range.2 (by omega), eqS_refl _⟩
      · rw [if_neg e4] at h1
        by_cases e5 : k = 5
        · subst e5
          rw [if_pos rfl] at h1
          simp only [Bool.and_eq_true, decide_eq_true_eq] at h1
          obtain ⟨⟨h3, rfl⟩, h5⟩ := h1
          rw [if_neg e4, if_pos rfl, if_pos rfl]
          refine ⟨?_, ?_, ?_⟩
          · rw [Vt.sound, Bool.and_eq_true, List.all_eq_true]
            refine ⟨?_, fun i hi => (ih i (hp i (List.mem_range.1 hi))).1⟩
            rw [headV, if_neg (by decide), if_neg (by decide), if_neg (by decide), if_neg (by decide), if_pos rfl, h5, decide_eq_true h3, decide_eq_true (rfl : words.length = words.length)]
            rfl
          · rw [Vt.depth, St.depth]
            have := most_le.2 (fun i hi => Nat.le_trans (ih i (hp i hi)).2.1 (most_le.1 (Nat.le_refl (most (fun i => (parts i).depth) words.length)) i hi))
            omega
          · rw [fitsV, decide_eq_true rfl, if_neg e4, if_pos rfl, eqL_refl, Bool.true_and, Bool.true_and, List.all_eq_true]
            exact fun i hi => (ih i (hp i (List.mem_range.1 hi))).2.2
        · rw [if_neg e5] at h1
          by_cases e6 : k = 6
          · subst e6
            simp only [if_neg e4, if_neg e5]
            refine ⟨?_, by rw [Vt.depth, St.depth, most]; omega, ?_⟩
            · rw [Vt.sound, List.range_zero, List.all_nil, Bool.and_true, headV]
              decide
            · rw [fitsV, decide_eq_true rfl, if_neg e4, if_neg e5, if_pos rfl, List.range_zero]
              rfl
          · rw [if_neg e6] at h1
            cases h1

theorem bl_nil (x : List UInt8) : Go.Op.bytesLess x [] = false := by cases x <;> rfl
theorem bl_cons (a : UInt8) (x : List UInt8) (b : UInt8) (y : List UInt8) : Go.Op.bytesLess (a :: x) (b :: y) = true ↔ a < b ∨ (a = b ∧ Go.Op.bytesLess x y = true) := by
  rw [Go.Op.bytesLess, Bool.or_eq_true, Bool.and_eq_true, decide_eq_true_eq, beq_iff_eq]
theorem bl_trans : ∀ {x y z : List UInt8}, Go.Op.bytesLess x y = true → Go.Op.bytesLess y z = true → Go.Op.bytesLess x z = true
  | _, [], _, h, _ => by rw [bl_nil] at h; cases h
  | _, _, [], _, h => by rw [bl_nil] at h; cases h
  | [], _ :: _, _ :: _, _, _ => rfl
  | a :: x, b :: y, c :: z, h, k => by
    rw [bl_cons] at h k ⊢
    rcases h with h | ⟨rfl, h⟩
    · rcases k with k | ⟨rfl, k⟩
      · exact .inl (UInt8.lt_trans h k)
      · exact .inl h
    · rcases k with k | ⟨rfl, k⟩
      · exact .inl k
      · exact .inr ⟨rfl, bl_trans h k⟩
theorem bl_irrefl : ∀ (x : List UInt8), Go.Op.bytesLess x x = false
  | [] => rfl
  | a :: x => by
    rw [← Bool.not_eq_true, bl_cons]
    rintro (h | ⟨_, h⟩)
    · exact UInt8.lt_irrefl a h
    · rw [bl_irrefl x] at h; cases h
theorem bl_tri : ∀ (x y : List UInt8), Go.Op.bytesLess x y = true ∨ x = y ∨ Go.Op.bytesLess y x = true
  | [], [] => .inr (.inl rfl)
  | [], _ :: _ => .inl rfl
  | _ :: _, [] => .inr (.inr rfl)
  | a :: x, b :: y => by
    rw [bl_cons, bl_cons]
    rcases Nat.lt_trichotomy a.toNat b.toNat with h | h | h
    · exact .inl (.inl (UInt8.lt_iff_toNat_lt.2 h))
    · obtain rfl := UInt8.toNat_inj.1 h
      rcases bl_tri x y with h | rfl | h
      · exact .inl (.inr ⟨rfl, h⟩)
      · exact .inr (.inl rfl)
      · exact .inr (.inr (.inr ⟨rfl, h⟩))
    · exact .inr (.inr (.inl (UInt8.lt_iff_toNat_lt.2 h)))
theorem ltS_trans {a b c : ByteArray} (h : ltS a b = true) (k : ltS b c = true) : ltS a c = true := bl_trans h k
/-- Behind, and neither like it nor ahead of it: the same. -/
theorem ltS_iff {a b : ByteArray} : ltS a b = true ↔ (eqS b a || ltS b a) = false := by
  unfold ltS eqS
  rw [Bool.or_eq_false_iff, beq_eq_false_iff_ne]
  constructor
  · intro h
    refine ⟨fun e => ?_, ?_⟩
    · rw [e, bl_irrefl] at h; cases h
    · rw [← Bool.not_eq_true]
      intro k
      have := bl_trans h k
      rw [bl_irrefl] at this
      cases this
  · rintro ⟨h, k⟩
    rcases bl_tri a.toList b.toList with h1 | h1 | h1
    · exact h1
    · exact absurd h1.symm h
    · rw [k] at h1; cases h1
/-- Each behind all before it. -/
def pairB (l : List ByteArray) : Bool := (List.range l.length).all fun i => nameB (nth l i) && (List.range i).all fun j => !(eqS (nth l i) (nth l j) || ltS (nth l i) (nth l j))
theorem pair_rise (l : List ByteArray) : pairB l = riseB l := by
  rw [Bool.eq_iff_iff]
  unfold pairB riseB
  simp only [List.all_eq_true, List.mem_range, Bool.and_eq_true, Bool.or_eq_true, decide_eq_true_eq, Bool.not_eq_true']
  constructor
  · intro h i hi
    refine ⟨(h i hi).1, ?_⟩
    by_cases h0 : i = 0
    · exact .inl h0
    · exact .inr (ltS_iff.2 ((h i hi).2 (i - 1) (by omega)))
  · intro h i hi
    refine ⟨(h i hi).1, fun j hj => ?_⟩
    rw [← ltS_iff]
    have hall : ∀ d j, j + d + 1 < l.length → ltS (nth l j) (nth l (j + d + 1)) = true := by
      intro d
      induction d with
      | zero =>
        intro j hj
        rcases (h (j + 1) hj).2 with h1 | h1
        · omega
        · simpa using h1
      | succ d ih =>
        intro j hj
        refine ltS_trans (ih j (by omega)) ?_
        rcases (h (j + (d + 1) + 1) hj).2 with h1 | h1
        · omega
        · rwa [show j + (d + 1) + 1 - 1 = j + d + 1 by omega] at h1
    have := hall (i - j - 1) j (by omega)
    rwa [show j + (i - j - 1) + 1 = i by omega] at this
end

section
open Go.RowKit

theorem below_drewN {B : Nat} {a w : World} (h : Below B a w) (n : Nat) : Below B a (w.drewN n) := ⟨h.os, h.tape, h.output, h.size, h.block⟩
/-- Block g is this row. -/
def Row (w : World) (g : Nat) (T : TypeId) (l : List Value) : Prop := w.heap[g]? = some (.cells l.toArray T (0, 0))
section
variable {w w' : World} {g : Nat} {T : TypeId} {l : List Value}
theorem Row.lt (h : Row w g T l) : g < w.heap.size := (Array.getElem?_eq_some_iff.1 h).1
theorem Row.cell (h : Row w g T l) {k : Nat} {v : Value} (hk : l[k]? = some v) : w.cell? ⟨g, k, none⟩ = some v := by
  rw [cell_of_row w g k _ _ _ h, List.getElem?_toArray]; exact hk
theorem Row.free (h : Row w g T l) (k : Nat) : w.frozen? ⟨g, k, none⟩ = false := frozen_of_row w g k _ _ h
theorem Row.set (h : Row w g T l) (k : Nat) (v : Value) : Row (w.setCell ⟨g, k, none⟩ v) g T (l.set k v) := by
  unfold Row at h ⊢
  rw [heap_setCell_same w g _ _ _ _ h, List.setIfInBounds_toArray]
theorem Row.below {B : Nat} (h : Row w g T l) (hb : Below B w w') (hg : g < B) : Row w' g T l := (hb.block g hg).trans h
theorem Row.belowAll (h : Row w g T l) (hb : Below w.heap.size w w') : Row w' g T l := h.below hb h.lt
theorem Row.drewN (h : Row w g T l) (n : Nat) : Row (w.drewN n) g T l := h
theorem Row.only {S : Nat → Prop} (h : Row w g T l) (ho : Only S w w') (hs : ¬ S g) : Row w' g T l := (ho.block g h.lt hs).trans h
theorem Row.rd (h : Row w g T l) {n : Nat} (hn : l.length = n) : Rd w (fun k => k = g) (some ⟨g, 0, none⟩) n l :=
  ⟨hn, fun _ => ⟨_, rfl, rfl, h.lt, fun j u hu => by
    have e : (⟨g, 0, none⟩ : Addr).add j = ⟨g, j, none⟩ := by unfold Addr.add; split <;> simp_all
    rw [e]; exact h.cell hu⟩⟩
theorem Row.new (w : World) (l : List Value) (T : TypeId) : Row (w.alloc (.cells l.toArray T)) w.heap.size T l := heap_alloc_new _ _
theorem Row.alloc (h : Row w g T l) (o : Obj) : Row (w.alloc o) g T l := (Below.heap_alloc _ _ _ h.lt).trans h
theorem Row.setCell (h : Row w g T l) {p : Addr} (hp : g ≠ p.block) (v : Value) : Row (w.setCell p v) g T l := (Below.heap_setCell _ _ _ _ hp).trans h
end

/-- A row of integers that is filled from its first cell on; whole. -/
def Tab (K : IntKind) (f : Nat → Nat) (n k : Nat) : List Value := (List.range n).map fun i => .int K ((if i < k then f i else 0 : Nat) : Int)
def Tabs (K : IntKind) (f : Nat → Nat) (n : Nat) : List Value := (List.range n).map fun i => .int K ((f i : Nat) : Int)
theorem Tab_length (K : IntKind) (f : Nat → Nat) (n k : Nat) : (Tab K f n k).length = n := by simp [Tab]
theorem Tabs_length (K : IntKind) (f : Nat → Nat) (n : Nat) : (Tabs K f n).length = n := by simp [Tabs]
theorem Tab_get (K : IntKind) (f : Nat → Nat) (n k : Nat) {j : Nat} (hj : j < n) : (Tab K f n k)[j]? = some (.int K ((if j < k then f j else 0 : Nat) : Int)) := by simp [Tab, hj]
theorem Tabs_get (K : IntKind) (f : Nat → Nat) (n : Nat) {j : Nat} (hj : j < n) : (Tabs K f n)[j]? = some (.int K ((f j : Nat) : Int)) := by simp [Tabs, hj]
theorem Tab_done (K : IntKind) (f : Nat → Nat) (n : Nat) : Tab K f n n = Tabs K f n := by
  unfold Tab Tabs
  refine List.map_congr_left fun i hi => ?_
  rw [if_pos (List.mem_range.1 hi)]
theorem Tab_zero (K : IntKind) (f : Nat → Nat) (n : Nat) : Tab K f n 0 = List.replicate n (.int K 0) := by
  unfold Tab
  refine List.ext_getElem? fun i => ?_
  by_cases h : i < n <;> simp [h]
theorem Tab_set (K : IntKind) (f : Nat → Nat) (n : Nat) {k : Nat} (hk : k < n) : (Tab K f n k).set k (.int K ((f k : Nat) : Int)) = Tab K f n (k + 1) := by
  refine List.ext_getElem? fun j => ?_
  by_cases hj : j < n
  · rw [List.getElem?_set, Tab_get _ _ _ _ hj, Tab_get _ _ _ _ hj]
    by_cases e : k = j
    · subst e; rw [if_pos rfl, if_pos (by rw [Tab_length]; exact hk), if_pos (by omega)]
    · rw [if_neg e]
      by_cases h2 : j < k
      · rw [if_pos h2, if_pos (by omega)]
      · rw [if_neg h2, if_neg (by omega)]
  · rw [List.getElem?_eq_none (by rw [List.length_set, Tab_length]; omega), List.getElem?_eq_none (by rw [Tab_length]; omega)]
theorem Tabs_one (K : IntKind) (f : Nat → Nat) (n : Nat) : (Tabs K f n).toArray.all (·.oneCell') = true := by
  rw [List.all_toArray, List.all_eq_true]
  intro v hv
  simp only [Tabs, List.mem_map] at hv
  obtain ⟨i, _, rfl⟩ := hv
  rfl
theorem Tabs_congr (K : IntKind) {f g : Nat → Nat} {n : Nat} (h : ∀ i, i < n → f i = g i) : Tabs K f n = Tabs K g n := by
  unfold Tabs
  refine List.map_congr_left fun i hi => ?_
  rw [h i (List.mem_range.1 hi)]
end

end Go.Proofs.YtmiadkhfjkaidaaGreatDoor
