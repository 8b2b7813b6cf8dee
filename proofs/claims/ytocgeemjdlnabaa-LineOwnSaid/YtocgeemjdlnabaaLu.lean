/- Marks that came in, as arguments. -/
import Derived.Test.YtocgeemjdlnabaaRows
import Derived.Test.YtocgeemjdlnabaaLo
import Derived.Test.YtocgeemjdlnabaaArrA
import Derived.Deep.Slices
import Derived.WalkKit
import Derived.ProofKit
import Derived.OpenShut
import Derived.ShutString
import Derived.ChangeOld
import Derived.Below
import Derived.ChangeSame
import Derived.ChangeSlices
namespace Go.Proofs.Ytocgeemjdlnabaa
open Go.ChangeShapes Go.WideShapes Go.ChangeAt Go.RowKit
set_option linter.unusedVariables false
set_option linter.unusedSimpArgs false

section
variable {H : Type} {enc : TypeId × Value → H} {P : Program} {t e : TypeId} {n : Nat} {q : IntKind} {W : World} {base : Nat} {sp : Nat → Bool} {held : Bool}
theorem open_ints_cells (hu : P.underlying t = some (.array n e)) (he : P.underlying e = some (.int q)) (hc : P.cellsOf e = 1) (hs : P.cellsOf t = n) {fuel : Nat} {cs : List Value} (hn : cs.length = n)
    {x : DataW H × List MemPlace} (hf : DataW.trod enc P W base sp held fuel t cs = some x) : ∃ zs : List Int, cs = zs.map (Value.int q) ∧ zs.length = n ∧ ∀ z ∈ zs, (Lit.int q z).wf = true := by
  cases fuel with
  | zero => simp [DataW.trod] at hf
  | succ m =>
    rw [DataW.trod_step] at hf
    unfold DataW.trodStep at hf
    simp only [hu] at hf
    rw [if_pos (by rw [hs]; simpa using hn)] at hf
    simp only [Option.map_eq_some_iff] at hf
    obtain ⟨ys, hy, _⟩ := hf
    rw [hc] at hy
    obtain ⟨zs, rfl, hw, hl⟩ := trod_each he _ ys hy
    have hlen : zs.length = n := by
      have := congrArg List.length hl
      simpa using this.symm
    refine ⟨zs, ?_, hlen, hw⟩
    refine List.ext_getElem? fun i => ?_
    by_cases hi : i < n
    · have h1 := congrArg (fun l : List (List Value) => l[i]?) hl
      simp only [List.getElem?_map, List.getElem?_range hi, Option.map_some, Nat.mul_one] at h1
      have h2 : i < zs.length := by omega
      have h3 : i < cs.length := by omega
      rw [List.getElem?_eq_getElem h2, Option.map_some] at h1
      have h4 := Option.some.inj h1
      rw [List.drop_eq_getElem_cons h3, List.take_succ_cons, List.take_zero] at h4
      rw [List.getElem?_map, List.getElem?_eq_getElem h2, List.getElem?_eq_getElem h3, (List.cons.inj h4).1]
      rfl
    · rw [List.getElem?_eq_none (by omega), List.getElem?_eq_none (by rw [List.length_map]; omega)]
end
theorem cells_get {w : World} {base : Nat} {a : Addr} {n : Nat} {cs : List Value} (h : w.cells? base a n = some cs) : cs.length = n ∧ ∀ j v, cs[j]? = some v → w.cell? (a.add j) = some v := by
  unfold World.cells? at h
  split at h
  · have hm : ∀ (L : List Nat) (cs : List Value), L.mapM (fun i => w.cell? (a.add i)) = some cs → cs.length = L.length ∧ ∀ (j : Nat) (v : Value), cs[j]? = some v → ∃ i : Nat, L[j]? = some i ∧ w.cell? (a.add i) = some v := by
      intro L
      induction L with
      | nil => intro cs h; simp at h; subst h; exact ⟨rfl, fun j v hv => by simp at hv⟩
      | cons i L ih =>
        intro cs h
        rw [List.mapM_cons] at h
        simp only [bind, Option.bind_eq_some_iff, pure, Option.some.injEq] at h
        obtain ⟨y, hy, ys, hys, rfl⟩ := h
        obtain ⟨h1, h2⟩ := ih ys hys
        refine ⟨by simp [h1], fun j v hv => ?_⟩
        cases j with
        | zero => simp at hv; subst hv; exact ⟨i, rfl, hy⟩
        | succ j => simpa using h2 j v (by simpa using hv)
    obtain ⟨h1, h2⟩ := hm _ _ h
    refine ⟨by simpa using h1, fun j v hv => ?_⟩
    obtain ⟨i, hi, hc⟩ := h2 j v hv
    have hj : j < n := by
      have := (List.getElem?_eq_some_iff.1 hi).1
      simpa using this
    rw [List.getElem?_range hj] at hi
    cases hi
    exact hc
  · cases h
theorem own : ownKnob Try.prog.godebug = none := by kernel_rfl
theorem laidOut : laidOutB Try.prog = true := by kernel_rfl
theorem hs_of {zs : List Int} (hl : zs.length = 32) (hw : ∀ z ∈ zs, (Lit.int .u8 z).wf = true) : ∃ x : Hs, zs.map (Value.int .u8) = x.c := by
  refine ⟨⟨zs.map fun z => UInt8.ofNat z.toNat, by rw [List.length_map, hl]⟩, ?_⟩
  unfold Hs.c Bs
  rw [List.map_map]
  refine List.map_congr_left fun z hz => ?_
  have h1 : 0 ≤ z ∧ z ≤ 255 := by have := bounds_u8 (hw z hz); omega
  show Value.int .u8 z = .int .u8 (((UInt8.ofNat z.toNat).toNat : Nat) : Int)
  rw [UInt8.toNat_ofNat', Nat.mod_eq_of_lt (by omega)]
  congr 1
  omega
section
variable {H : Type} {enc : TypeId × Value → H} {w : World} {base : Nat} {spare : Nat → Bool} {held : Bool}
theorem open_mk_cells {fuel : Nat} {cs : List Value} {x : DataW H × List MemPlace} (hf : DataW.trod enc Try.prog w base spare held fuel 26 cs = some x) : ∃ m : Mk, cs = Mk.c m := by
  obtain ⟨y0, y1, k, _, hl, h0, h1⟩ := trod_struct2 Try.underlying26 hf
  have c33 : Try.prog.cellsOf 26 = 33 := by kernel_rfl
  have c1 : Try.prog.cellsOf 3 = 1 := by kernel_rfl
  have c32 : Try.prog.cellsOf 24 = 32 := by kernel_rfl
  simp only [c1, c32] at h0 h1
  rw [c33] at hl
  obtain ⟨a, e0, _⟩ := DataW.trod_int Try.underlying3 h0
  obtain ⟨zs, e1, hz, hw⟩ := open_ints_cells Try.underlying24 Try.underlying5 (by kernel_rfl) c32 (by rw [List.length_take, List.length_drop]; omega) h1
  obtain ⟨h, eh⟩ := hs_of hz hw
  refine ⟨(a, h), ?_⟩
  cases cs with
  | nil => simp at hl
  | cons v cs =>
    simp only [List.drop_zero, List.take_succ_cons, List.take_zero, List.cons.injEq, and_true] at e0
    simp only [List.drop_succ_cons, List.drop_zero] at e1
    rw [List.take_of_length_le (by simp at hl; omega)] at e1
    unfold Mk.c
    rw [e0, e1, eh]
/-- A mark that came in. -/
theorem open_mark {v : Value} {r : Reach} {b0 : Nat} (hv : Value.okWide Try.prog w r b0 26 v) {d : DataW H} {ps : List MemPlace} (hd : DataW.Trod enc Try.prog w base spare held 26 v d ps) : ∃ m : Mk, v = .agg (Mk.c m).toArray := by
  obtain ⟨cs, rfl, _⟩ := okWide_struct Try.underlying26 hv
  obtain ⟨fuel, hf⟩ := hd
  obtain ⟨m, e⟩ := open_mk_cells hf
  refine ⟨m, ?_⟩
  rw [← e]
  simp [Value.cells]
/-- Marks that came in. -/
theorem open_marks {v : Value} {fuel : Nat} {x : DataW H × List MemPlace} (h : DataW.trod enc Try.prog w base spare held fuel 22 [v] = some x) :
    ∃ A n cap D, v = .slice A n cap ∧ RdHM w A n D := by
  rcases Go.Deep.open_slice Try.underlying22 h with ⟨hcs, _⟩ | ⟨a, len, cap, m, fu, Dd, Pl, hcs, _, hl, hm, hmm, _, hx⟩
  · obtain rfl : v = .slice none 0 0 := by simpa using hcs
    exact ⟨none, 0, 0, [], rfl, rfl, fun h => absurd h (by omega)⟩
  · obtain rfl : v = .slice (some a) len cap := by simpa using hcs
    have hml : len ≤ m := by rw [hmm]; split <;> omega
    have hc33 : Try.prog.cellsOf 26 = 33 := by kernel_rfl
    rw [hc33] at hx
    have each : ∀ i, i < len → ∃ y : Mk, ∀ j v, (Mk.c y)[j]? = some v → w.cell? ((a.add (i * 33)).add j) = some v := by
      intro i hi
      obtain ⟨cs', h1, h2⟩ := hx i (by omega)
      obtain ⟨h3, h4⟩ := cells_get h1
      obtain ⟨y, e⟩ := open_mk_cells h2
      exact ⟨y, fun j v hv => h4 j v (by rw [e]; exact hv)⟩
    obtain ⟨f, hf⟩ := Go.Deep.choose_lt each
    refine ⟨some a, len, cap, (List.range len).map f, rfl, by simp, fun hn => ⟨a, rfl, ?_, fun j v hv => ?_⟩⟩
    · have h0 : (Mk.c (f 0))[0]? = some ((Mk.c (f 0))[0]'(by rw [Mk.c_len]; omega)) := List.getElem?_eq_getElem _
      have := lt_of_cell (hf 0 hn 0 _ h0)
      rwa [add_block, add_block] at this
    · have hj : j < (flatM ((List.range len).map f)).length := (List.getElem?_eq_some_iff.1 hv).1
      rw [flat_lengthM, List.length_map, List.length_range] at hj
      have hi : j / 33 < len := by omega
      have hr : j % 33 < (Mk.c (f (j / 33))).length := by rw [Mk.c_len]; omega
      have h1 := flat_atM (d := (List.range len).map f) (i := j / 33) (x := f (j / 33)) (by simp [hi]) [] (List.getElem?_eq_getElem hr)
      rw [List.append_nil, show j / 33 * 33 + j % 33 = j by omega] at h1
      have h2 := hf _ hi _ _ (List.getElem?_eq_getElem hr)
      rw [add_add, show j / 33 * 33 + j % 33 = j by omega] at h2
      rw [h1] at hv
      cases hv
      exact h2
end

/-- Bytes that came in. -/
def RdY (w : World) (A : Option Addr) (n : Nat) (O : List Nat) : Prop :=
  O.length = n ∧ (0 < n → ∃ b o, A = some ⟨b, o, none⟩ ∧ b < w.heap.size ∧ ∀ (i y : Nat), O[i]? = some y → y < 256 ∧ w.cell? ⟨b, o + i, none⟩ = some (.int .u8 (y : Int)))
theorem RdY.keep {w w' : World} {A : Option Addr} {n : Nat} {O : List Nat} (h : RdY w A n O) (hb : Below w.heap.size w w') : RdY w' A n O :=
  ⟨h.1, fun hn => by
    obtain ⟨b, o, e, hlt, hc⟩ := h.2 hn
    exact ⟨b, o, e, Nat.lt_of_lt_of_le hlt hb.size, fun i y hy => ⟨(hc i y hy).1, (hb.cell (p := ⟨b, o + i, none⟩) hlt).trans (hc i y hy).2⟩⟩⟩
theorem open_bytes {H : Type} {enc : TypeId × Value → H} {w : World} {base : Nat} {spare : Nat → Bool} {held : Bool} {v : Value} {fuel : Nat} {x : DataW H × List MemPlace} (h : DataW.trod enc Try.prog w base spare held fuel 43 [v] = some x) :
    ∃ A n cap O, v = .slice A n cap ∧ RdY w A n O := by
  rcases open_ints Try.underlying43 Try.underlying5 (by kernel_rfl) h with ⟨hcs, _⟩ | ⟨a, len, cap, zs, hcs, _, hl, hm, hz, _, hcell, hwz⟩
  · obtain rfl : v = .slice none 0 0 := by simpa using hcs
    exact ⟨none, 0, 0, [], rfl, rfl, fun h => absurd h (by omega)⟩
  · obtain rfl : v = .slice (some a) len cap := by simpa using hcs
    have hml : len ≤ zs.length := by rw [hz]; split <;> omega
    refine ⟨some a, len, cap, (zs.take len).map Int.toNat, rfl, by rw [List.length_map, List.length_take]; omega, fun h0 => ?_⟩
    have h1 := hcell 0 (by omega)
    have hs := World.cell?_spot h1
    have hs' : a.spot = none := by
      unfold Addr.add at hs
      rwa [if_pos rfl] at hs
    obtain ⟨b, o, sp⟩ := a
    simp only at hs'
    subst hs'
    have hadd : ∀ i, (⟨b, o, none⟩ : Addr).add i = ⟨b, o + i, none⟩ := fun i => by unfold Addr.add; split <;> simp_all
    refine ⟨b, o, rfl, ?_, fun i y hy => ?_⟩
    · rw [hadd] at h1
      exact World.block_lt_of_cell? _ _ h1
    · rw [List.getElem?_map] at hy
      cases hq : (zs.take len)[i]? with
      | none => rw [hq] at hy; cases hy
      | some z =>
        rw [hq] at hy
        cases hy
        have hil := (List.getElem?_eq_some_iff.1 hq).1
        rw [List.length_take] at hil
        have h2 := hcell i (by omega)
        rw [hadd] at h2
        rw [List.getElem?_take_of_lt (by omega)] at hq
        have hb := bounds_u8 (hwz z (List.mem_of_getElem? hq))
        have e : zs.getD i 0 = z := by rw [List.getD_eq_getElem?_getD, hq]; rfl
        have e2 : ((z.toNat : Nat) : Int) = z := by omega
        refine ⟨by omega, ?_⟩
        rw [h2, e2, ← e]

end Go.Proofs.Ytocgeemjdlnabaa
