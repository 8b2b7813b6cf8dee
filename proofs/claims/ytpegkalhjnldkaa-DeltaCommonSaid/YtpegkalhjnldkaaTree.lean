/- Values and schemas as trees: what their cells say, however deep they are; what a row's reading of an argument gives. -/
import Derived.Test.YtpegkalhjnldkaaBase
import Derived.Test.YtpegkalhjnldkaaRows
import Derived.ChangeSame
import Derived.Deep.Strs
import Derived.SliceStrings
import Derived.ChangeSlices
namespace Go.Proofs.Ytpegkalhjnldkaa
set_option maxRecDepth 100000
open Go.RowKit Go.ChangeShapes

/-- A value: its kind, its number, its text, its names, its elements' numbers, its parts. -/
inductive Vt where
  | nul
  | mk (kind n : Int) (s : ByteArray) (names : List ByteArray) (ids : List Int) (len : Nat) (parts : Nat → Vt)
/-- A schema: its kind, its words, its parts. -/
inductive St where
  | nul
  | mk (kind : Int) (words : List ByteArray) (len : Nat) (parts : Nat → St)

/-- Rows of cells, n of them, of size s each, one behind the other. -/
def Parts (w : World) (s : Nat) (c : Option Addr) (n : Nat) (css : Nat → List Value) : Prop :=
  0 < n → ∃ ad, c = some ad ∧ ad.block < w.heap.size ∧ ∀ j, j < n → (css j).length = s ∧ ∀ i u, (css j)[i]? = some u → w.cell? (ad.add (j * s + i)) = some u
theorem Parts.below {w w' : World} {s n : Nat} {c : Option Addr} {css : Nat → List Value} (h : Parts w s c n css) (hb : Below w.heap.size w w') : Parts w' s c n css := fun hn => by
  obtain ⟨ad, e, hlt, hc⟩ := h hn
  exact ⟨ad, e, Nat.lt_of_lt_of_le hlt hb.size, fun j hj => ⟨(hc j hj).1, fun i u hu => (hb.cell (p := ad.add (j * s + i)) (by rw [add_block]; exact hlt)).trans ((hc j hj).2 i u hu)⟩⟩

inductive VAt (w : World) : Vt → List Value → Prop
  | mk {k n : Int} {s : ByteArray} {names : List ByteArray} {ids : List Int} {len : Nat} {parts : Nat → Vt} {a b c : Option Addr} {la ca lb cb cc : Nat} (css : Nat → List Value)
      (hk : (Lit.int .i64 k).wf = true) (hn : (Lit.int .i64 n).wf = true) (hs : s.size ≤ maxLen)
      (h1 : Rd w (fun _ => True) a la (names.map Value.string)) (h1c : la ≤ ca ∧ ca ≤ maxLen) (hss : ∀ x ∈ names, x.size ≤ maxLen)
      (h2 : Rd w (fun _ => True) b lb (ids.map (Value.int .u64))) (h2c : lb ≤ cb ∧ cb ≤ maxLen) (hi : ∀ x ∈ ids, (Lit.int .u64 x).wf = true)
      (h3 : Parts w 6 c len css) (h3c : len ≤ cc ∧ cc ≤ maxLen) (h : ∀ j, j < len → VAt w (parts j) (css j)) :
      VAt w (.mk k n s names ids len parts) [.int .i64 k, .int .i64 n, .string s, .slice a la ca, .slice b lb cb, .slice c len cc]
inductive SAt (w : World) : St → List Value → Prop
  | mk {k : Int} {words : List ByteArray} {len : Nat} {parts : Nat → St} {a c : Option Addr} {la ca cc : Nat} (css : Nat → List Value)
      (hk : (Lit.int .i64 k).wf = true)
      (h1 : Rd w (fun _ => True) a la (words.map Value.string)) (h1c : la ≤ ca ∧ ca ≤ maxLen) (hss : ∀ x ∈ words, x.size ≤ maxLen)
      (h3 : Parts w 3 c len css) (h3c : len ≤ cc ∧ cc ≤ maxLen) (h : ∀ j, j < len → SAt w (parts j) (css j)) :
      SAt w (.mk k words len parts) [.int .i64 k, .slice a la ca, .slice c len cc]
theorem VAt.length {w : World} {v : Vt} {cs : List Value} (h : VAt w v cs) : cs.length = 6 := by cases h; rfl
theorem SAt.length {w : World} {v : St} {cs : List Value} (h : SAt w v cs) : cs.length = 3 := by cases h; rfl
theorem VAt.later {w w' : World} (hb : Below w.heap.size w w') : ∀ {v : Vt} {cs : List Value}, VAt w v cs → VAt w' v cs := by
  intro v cs h
  induction h with
  | mk css hk hn hs h1 h1c hss h2 h2c hi h3 h3c _ ih => exact .mk css hk hn hs (h1.belowAll hb) h1c hss (h2.belowAll hb) h2c hi (h3.below hb) h3c ih
theorem SAt.later {w w' : World} (hb : Below w.heap.size w w') : ∀ {v : St} {cs : List Value}, SAt w v cs → SAt w' v cs := by
  intro v cs h
  induction h with
  | mk css hk h1 h1c hss h3 h3c _ ih => exact .mk css hk (h1.belowAll hb) h1c hss (h3.below hb) h3c ih

section
variable {H : Type} {enc : TypeId × Value → H} {P : Program} {w : World} {base : Nat} {spare : Nat → Bool} {held : Bool}
theorem read_int {t : TypeId} {k : IntKind} {fuel : Nat} {cs : List Value} {x : DataW H × List MemPlace} (ht : P.underlying t = some (.int k)) (h : DataW.trod enc P w base spare held fuel t cs = some x) : ∃ n, cs = [.int k n] ∧ (Lit.int k n).wf = true := by
  cases fuel with
  | zero => simp [DataW.trod] at h
  | succ m =>
    unfold DataW.trod at h
    rw [ht] at h
    split at h <;> simp_all
theorem read_str {t : TypeId} {fuel : Nat} {cs : List Value} {x : DataW H × List MemPlace} (ht : P.underlying t = some .string) (h : DataW.trod enc P w base spare held fuel t cs = some x) : ∃ s, cs = [.string s] ∧ s.size ≤ maxLen := by
  cases fuel with
  | zero => simp [DataW.trod] at h
  | succ m =>
    unfold DataW.trod at h
    rw [ht] at h
    split at h <;> simp_all
theorem read_strs {t e : TypeId} {fuel : Nat} {cs : List Value} {x : DataW H × List MemPlace} (ht : P.underlying t = some (.slice e)) (he : P.underlying e = some .string) (hc : P.cellsOf e = 1) (h : DataW.trod enc P w base spare held fuel t cs = some x) :
    ∃ (a : Option Addr) (len cap : Nat) (l : List ByteArray), cs = [.slice a len cap] ∧ Rd w (fun _ => True) a len (l.map Value.string) ∧ (len ≤ cap ∧ cap ≤ maxLen) ∧ ∀ s ∈ l, s.size ≤ maxLen := by
  rcases open_strings ht he hc h with ⟨rfl, _⟩ | ⟨a, len, cap, ss, rfl, _, hl, hm, hlen, _, hcell, hsz⟩
  · exact ⟨none, 0, 0, [], rfl, Rd.nil _ _ _, ⟨Nat.le_refl _, Nat.zero_le _⟩, fun _ h => by cases h⟩
  · have hle : len ≤ ss.length := by rw [hlen]; split <;> omega
    refine ⟨some a, len, cap, ss.take len, rfl, ⟨by simp; omega, fun hn => ?_⟩, ⟨hl, hm⟩, fun s hs => hsz s (List.mem_of_mem_take hs)⟩
    have hb : a.block < w.heap.size := by
      have := lt_of_cell (hcell 0 (by omega))
      rwa [add_block] at this
    refine ⟨a, rfl, trivial, hb, fun j u hu => ?_⟩
    have hj : j < len := by
      have := (List.getElem?_eq_some_iff.1 hu).1
      simp at this
      omega
    rw [hcell j (by omega), ← hu, List.getElem?_map, List.getElem?_take, if_pos hj, List.getD, List.getElem?_eq_getElem (by omega)]
    rfl
theorem read_ints {t e : TypeId} {k : IntKind} {fuel : Nat} {cs : List Value} {x : DataW H × List MemPlace} (ht : P.underlying t = some (.slice e)) (he : P.underlying e = some (.int k)) (hc : P.cellsOf e = 1) (h : DataW.trod enc P w base spare held fuel t cs = some x) :
    ∃ (a : Option Addr) (len cap : Nat) (l : List Int), cs = [.slice a len cap] ∧ Rd w (fun _ => True) a len (l.map (Value.int k)) ∧ (len ≤ cap ∧ cap ≤ maxLen) ∧ ∀ n ∈ l, (Lit.int k n).wf = true := by
  rcases open_ints ht he hc h with ⟨rfl, _⟩ | ⟨a, len, cap, ss, rfl, _, hl, hm, hlen, _, hcell, hsz⟩
  · exact ⟨none, 0, 0, [], rfl, Rd.nil _ _ _, ⟨Nat.le_refl _, Nat.zero_le _⟩, fun _ h => by cases h⟩
  · have hle : len ≤ ss.length := by rw [hlen]; split <;> omega
    refine ⟨some a, len, cap, ss.take len, rfl, ⟨by simp; omega, fun hn => ?_⟩, ⟨hl, hm⟩, fun s hs => hsz s (List.mem_of_mem_take hs)⟩
    have hb : a.block < w.heap.size := by
      have := lt_of_cell (hcell 0 (by omega))
      rwa [add_block] at this
    refine ⟨a, rfl, trivial, hb, fun j u hu => ?_⟩
    have hj : j < len := by
      have := (List.getElem?_eq_some_iff.1 hu).1
      simp at this
      omega
    rw [hcell j (by omega), ← hu, List.getElem?_map, List.getElem?_take, if_pos hj, List.getD, List.getElem?_eq_getElem (by omega)]
    rfl
/-- A slice of rows of cells, whose reading is known. -/
theorem read_parts {t e : TypeId} {s fuel : Nat} {cs : List Value} {x : DataW H × List MemPlace} {T : Type} (R : T → List Value → Prop) (ht : P.underlying t = some (.slice e)) (hc : P.cellsOf e = s) (hs : 0 < s) (d0 : T)
    (hR : ∀ m, m < fuel → ∀ cs' x', cs'.length = s → DataW.trod enc P w base spare held m e cs' = some x' → ∃ v, R v cs') (h : DataW.trod enc P w base spare held fuel t cs = some x) :
    ∃ (c : Option Addr) (len cap : Nat) (css : Nat → List Value) (parts : Nat → T), cs = [.slice c len cap] ∧ Parts w s c len css ∧ (len ≤ cap ∧ cap ≤ maxLen) ∧ ∀ j, j < len → R (parts j) (css j) := by
  rcases DataW.trod_slice ht h with ⟨rfl, _⟩ | ⟨a, len, cap, elems, rest, n, hf, rfl, _, _, hl, hm, hlen, hel, _, _⟩
  · exact ⟨none, 0, 0, fun _ => [], fun _ => d0, rfl, fun h => absurd h (by decide), ⟨Nat.le_refl _, Nat.zero_le _⟩, fun j h => absurd h (Nat.not_lt_zero _)⟩
  · have hone : ∀ j, j < len → ∃ q : List Value × T, w.cells? base (a.add (j * s)) s = some q.1 ∧ R q.2 q.1 := fun j hj => by
      have h1 := hel j hj
      rw [hc, List.getElem?_eq_getElem (by omega)] at h1
      obtain ⟨cs', h2, h3⟩ := Option.bind_eq_some_iff.1 h1
      obtain ⟨v, hv⟩ := hR n (by omega) cs' _ (World.cells?_some h2).2.1 h3
      exact ⟨(cs', v), h2, hv⟩
    refine ⟨some a, len, cap, fun j => if hj : j < len then (hone j hj).choose.1 else [], fun j => if hj : j < len then (hone j hj).choose.2 else d0, rfl, fun hn => ⟨a, rfl, ?_, fun j hj => ?_⟩, ⟨hl, hm⟩, fun j hj => ?_⟩
    · have h1 := World.cells?_block (hone 0 hn).choose_spec.1 hs
      rwa [add_block] at h1
    · simp only [dif_pos hj]
      obtain ⟨_, h1, h2⟩ := World.cells?_some (hone j hj).choose_spec.1
      refine ⟨h1, fun i u hu => ?_⟩
      have hi : i < s := by
        have := (List.getElem?_eq_some_iff.1 hu).1
        omega
      rw [← add_add, h2 i hi, hu]
    · simp only [dif_pos hj]
      exact (hone j hj).choose_spec.2
end

theorem read_field {α : Type} {xs : List α} {n k : Nat} {f : Option α} (hlen : xs.length = n) (h : f = xs[k]?) (hk : k < n) : ∃ x, f = some x := ⟨_, h.trans (List.getElem?_eq_getElem (by omega))⟩
theorem six {cs : List Value} (h : cs.length = 6) : ∃ a b c d e f, cs = [a, b, c, d, e, f] := by
  match cs, h with
  | [a, b, c, d, e, f], _ => exact ⟨a, b, c, d, e, f, rfl⟩
theorem three {cs : List Value} (h : cs.length = 3) : ∃ a b c, cs = [a, b, c] := by
  match cs, h with
  | [a, b, c], _ => exact ⟨a, b, c, rfl⟩
theorem c_int : Try.prog.cellsOf 3 = 1 := by kernel_rfl
theorem c_str : Try.prog.cellsOf 9 = 1 := by kernel_rfl
theorem c_u64 : Try.prog.cellsOf 39 = 1 := by kernel_rfl
theorem c_strs : Try.prog.cellsOf 26 = 1 := by kernel_rfl
theorem c_ids : Try.prog.cellsOf 22 = 1 := by kernel_rfl
theorem c_vals : Try.prog.cellsOf 35 = 1 := by kernel_rfl
theorem c_val : Try.prog.cellsOf 37 = 6 := by kernel_rfl
theorem c_schs : Try.prog.cellsOf 27 = 1 := by kernel_rfl
theorem c_sch : Try.prog.cellsOf 29 = 3 := by kernel_rfl
/-- What a reading of a value says. -/
theorem vat_of {H : Type} {enc : TypeId × Value → H} {w : World} {base : Nat} {spare : Nat → Bool} {held : Bool} : ∀ (fuel : Nat) (cs : List Value) (x : DataW H × List MemPlace), DataW.trod enc Try.prog w base spare held fuel 37 cs = some x → ∃ v, VAt w v cs := by
  intro fuel
  induction fuel using Nat.strongRecOn with
  | _ fuel ih =>
    intro cs x h
    obtain ⟨xs, n, rfl, _, hl, hlen, hf⟩ := DataW.trod_struct Try.underlying37 h
    rw [c_val] at hl
    obtain ⟨c0, c1, c2, c3, c4, c5, rfl⟩ := six hl
    obtain ⟨x0, h0⟩ := read_field hlen (hf 0 { name := "Kind", type := 3, offset := 0, embedded := false, tag := "", pkgPath := "", byteOffset := 0 } rfl) (by decide)
    obtain ⟨x1, h1⟩ := read_field hlen (hf 1 { name := "N", type := 3, offset := 1, embedded := false, tag := "", pkgPath := "", byteOffset := 8 } rfl) (by decide)
    obtain ⟨x2, h2⟩ := read_field hlen (hf 2 { name := "S", type := 9, offset := 2, embedded := false, tag := "", pkgPath := "", byteOffset := 16 } rfl) (by decide)
    obtain ⟨x3, h3⟩ := read_field hlen (hf 3 { name := "Names", type := 26, offset := 3, embedded := false, tag := "", pkgPath := "", byteOffset := 32 } rfl) (by decide)
    obtain ⟨x4, h4⟩ := read_field hlen (hf 4 { name := "Ids", type := 22, offset := 4, embedded := false, tag := "", pkgPath := "", byteOffset := 56 } rfl) (by decide)
    obtain ⟨x5, h5⟩ := read_field hlen (hf 5 { name := "Parts", type := 35, offset := 5, embedded := false, tag := "", pkgPath := "", byteOffset := 80 } rfl) (by decide)
    simp only [c_int, c_str, c_strs, c_ids, c_vals, List.drop_zero, List.drop_succ_cons, List.take_succ_cons, List.take_zero] at h0 h1 h2 h3 h4 h5
    obtain ⟨k, e0, hk⟩ := read_int Try.underlying3 h0
    obtain ⟨m, e1, hm⟩ := read_int Try.underlying3 h1
    obtain ⟨s, e2, hs⟩ := read_str Try.underlying9 h2
    obtain ⟨a, la, ca, names, e3, r3, l3, b3⟩ := read_strs Try.underlying26 Try.underlying9 c_str h3
    obtain ⟨b, lb, cb, ids, e4, r4, l4, b4⟩ := read_ints Try.underlying22 Try.underlying39 c_u64 h4
    obtain ⟨c, lc, cc, css, parts, e5, r5, l5, b5⟩ := read_parts (VAt w) Try.underlying35 c_val (by decide) .nul (fun m hm cs' x' _ hx => ih m (by omega) cs' x' hx) h5
    injection e0 with e0; injection e1 with e1; injection e2 with e2; injection e3 with e3; injection e4 with e4; injection e5 with e5
    subst e0 e1 e2 e3 e4 e5
    exact ⟨_, .mk css hk hm hs r3 l3 b3 r4 l4 b4 r5 l5 b5⟩
theorem sat_of {H : Type} {enc : TypeId × Value → H} {w : World} {base : Nat} {spare : Nat → Bool} {held : Bool} : ∀ (fuel : Nat) (cs : List Value) (x : DataW H × List MemPlace), DataW.trod enc Try.prog w base spare held fuel 29 cs = some x → ∃ v, SAt w v cs := by
  intro fuel
  induction fuel using Nat.strongRecOn with
  | _ fuel ih =>
    intro cs x h
    obtain ⟨xs, n, rfl, _, hl, hlen, hf⟩ := DataW.trod_struct Try.underlying29 h
    rw [c_sch] at hl
    obtain ⟨c0, c1, c2, rfl⟩ := three hl
    obtain ⟨x0, h0⟩ := read_field hlen (hf 0 { name := "Kind", type := 3, offset := 0, embedded := false, tag := "", pkgPath := "", byteOffset := 0 } rfl) (by decide)
    obtain ⟨x1, h1⟩ := read_field hlen (hf 1 { name := "Words", type := 26, offset := 1, embedded := false, tag := "", pkgPath := "", byteOffset := 8 } rfl) (by decide)
    obtain ⟨x2, h2⟩ := read_field hlen (hf 2 { name := "Parts", type := 27, offset := 2, embedded := false, tag := "", pkgPath := "", byteOffset := 32 } rfl) (by decide)
    simp only [c_int, c_strs, c_schs, List.drop_zero, List.drop_succ_cons, List.take_succ_cons, List.take_zero] at h0 h1 h2
    obtain ⟨k, e0, hk⟩ := read_int Try.underlying3 h0
    obtain ⟨a, la, ca, names, e1, r1, l1, b1⟩ := read_strs Try.underlying26 Try.underlying9 c_str h1
    obtain ⟨c, lc, cc, css, parts, e2, r2, l2, b2⟩ := read_parts (SAt w) Try.underlying27 c_sch (by decide) .nul (fun m hm cs' x' _ hx => ih m (by omega) cs' x' hx) h2
    injection e0 with e0; injection e1 with e1; injection e2 with e2
    subst e0 e1 e2
    exact ⟨_, .mk css hk r1 l1 b1 r2 l2 b2⟩

end Go.Proofs.Ytpegkalhjnldkaa
