/- For any names: Sort, Less and Seed are what the document says, the law EntrySorts returns true, and nothing that was there is changed; no condition but the form's own reach. -/
import Derived.Test.YtkhadfliandpmaaGreatRows
import Derived.Test.YtkhadfliandpmaaGreatEi
import Derived.Test.YtkhadfliandpmaaGreatEo
import Derived.Test.YtkhadfliandpmaaGreatArrA
import Derived.Deep.Slices
import Derived.WalkKit
import Derived.ProofKit
import Derived.OpenShut
import Derived.ShutString
import Derived.ChangeOld
import Derived.Below
import Derived.ChangeSame
namespace Go.Proofs.YtkhadfliandpmaaGreat.entrySorts
open Go.ChangeShapes Go.WideShapes Go.ChangeAt Go.RowKit
set_option linter.unusedVariables false
set_option linter.unusedSimpArgs false

section
variable {H : Type} {enc : TypeId × Value → H} {P : Program} {t e : TypeId} {n : Nat} {q : IntKind} {W : World} {base : Nat} {sp : Nat → Bool} {held : Bool}
theorem open_ints_cells (hu : P.underlying t = some (.array n e)) (he : P.underlying e = some (.int q)) (hc : P.cellsOf e = 1) (hs : P.cellsOf t = n) {fuel : Nat} {cs : List Value} (hn : cs.length = n)
    {x : DataW H × List MemPlace} (hf : DataW.trod enc P W base sp held fuel t cs = some x) : ∃ zs : List Int, cs = zs.map (Value.int q) ∧ zs.length = n ∧ ∀ z ∈ zs, (Lit.int q z).wf = true := by
  cases fuel with
  | zero => simp [DataW.trod] at hf
  | succ m =>
    rw [DataW.trod_step] at hf
    unfold DataW.trodStep at hf
    simp only [hu] at hf
    rw [if_pos (by rw [hs]; simpa using hn)] at hf
    simp only [Option.map_eq_some_iff] at hf
    obtain ⟨ys, hy, _⟩ := hf
    rw [hc] at hy
    obtain ⟨zs, rfl, hw, hl⟩ := trod_each he _ ys hy
    have hlen : zs.length = n := by
      have := congrArg List.length hl
      simpa using this.symm
    refine ⟨zs, ?_, hlen, hw⟩
    refine List.ext_getElem? fun i => ?_
    by_cases hi : i < n
    · have h1 := congrArg (fun l : List (List Value) => l[i]?) hl
      simp only [List.getElem?_map, List.getElem?_range hi, Option.map_some, Nat.mul_one] at h1
      have h2 : i < zs.length := by omega
      have h3 : i < cs.length := by omega
      rw [List.getElem?_eq_getElem h2, Option.map_some] at h1
      have h4 := Option.some.inj h1
      rw [List.drop_eq_getElem_cons h3, List.take_succ_cons, List.take_zero] at h4
      rw [List.getElem?_map, List.getElem?_eq_getElem h2, List.getElem?_eq_getElem h3, (List.cons.inj h4).1]
      rfl
    · rw [List.getElem?_eq_none (by omega), List.getElem?_eq_none (by rw [List.length_map]; omega)]
end
theorem cells_get {w : World} {base : Nat} {a : Addr} {n : Nat} {cs : List Value} (h : w.cells? base a n = some cs) : cs.length = n ∧ ∀ j v, cs[j]? = some v → w.cell? (a.add j) = some v := by
  unfold World.cells? at h
  split at h
  · have hm : ∀ (L : List Nat) (cs : List Value), L.mapM (fun i => w.cell? (a.add i)) = some cs → cs.length = L.length ∧ ∀ (j : Nat) (v : Value), cs[j]? = some v → ∃ i : Nat, L[j]? = some i ∧ w.cell? (a.add i) = some v := by
      intro L
      induction L with
      | nil => intro cs h; simp at h; subst h; exact ⟨rfl, fun j v hv => by simp at hv⟩
      | cons i L ih =>
        intro cs h
        rw [List.mapM_cons] at h
        simp only [bind, Option.bind_eq_some_iff, pure, Option.some.injEq] at h
        obtain ⟨y, hy, ys, hys, rfl⟩ := h
        obtain ⟨h1, h2⟩ := ih ys hys
        refine ⟨by simp [h1], fun j v hv => ?_⟩
        cases j with
        | zero => simp at hv; subst hv; exact ⟨i, rfl, hy⟩
        | succ j => simpa using h2 j v (by simpa using hv)
    obtain ⟨h1, h2⟩ := hm _ _ h
    refine ⟨by simpa using h1, fun j v hv => ?_⟩
    obtain ⟨i, hi, hc⟩ := h2 j v hv
    have hj : j < n := by
      have := (List.getElem?_eq_some_iff.1 hi).1
      simpa using this
    rw [List.getElem?_range hj] at hi
    cases hi
    exact hc
  · cases h

theorem own : ownKnob Tryz.prog.godebug = none := by kernel_rfl
theorem laidOut : laidOutB Tryz.prog = true := by kernel_rfl
theorem hs_of {zs : List Int} (hl : zs.length = 32) (hw : ∀ z ∈ zs, (Lit.int .u8 z).wf = true) : ∃ x : Hs, zs.map (Value.int .u8) = x.c := by
  refine ⟨⟨zs.map fun z => UInt8.ofNat z.toNat, by rw [List.length_map, hl]⟩, ?_⟩
  unfold Hs.c Bs
  rw [List.map_map]
  refine List.map_congr_left fun z hz => ?_
  have h1 : 0 ≤ z ∧ z ≤ 255 := by have := bounds_u8 (hw z hz); omega
  show Value.int .u8 z = .int .u8 (((UInt8.ofNat z.toNat).toNat : Nat) : Int)
  rw [UInt8.toNat_ofNat', Nat.mod_eq_of_lt (by omega)]
  congr 1
  omega
/-- Names that came in. -/
theorem open_names {H : Type} {enc : TypeId × Value → H} {w : World} {base : Nat} {spare : Nat → Bool} {held : Bool} {v : Value} {fuel : Nat} {x : DataW H × List MemPlace} (h : DataW.trod enc Tryz.prog w base spare held fuel 22 [v] = some x) :
    ∃ A n cap D, v = .slice A n cap ∧ RdH w A n D := by
  rcases Go.Deep.open_slice Tryz.underlying22 h with ⟨hcs, _⟩ | ⟨a, len, cap, m, fu, Dd, Pl, hcs, _, hl, hm, hmm, _, hx⟩
  · obtain rfl : v = .slice none 0 0 := by simpa using hcs
    exact ⟨none, 0, 0, [], rfl, rfl, fun h => absurd h (by omega)⟩
  · obtain rfl : v = .slice (some a) len cap := by simpa using hcs
    have hml : len ≤ m := by rw [hmm]; split <;> omega
    have hc32 : Tryz.prog.cellsOf 26 = 32 := by kernel_rfl
    rw [hc32] at hx
    have each : ∀ i, i < len → ∃ y : Hs, ∀ j v, y.c[j]? = some v → w.cell? ((a.add (i * 32)).add j) = some v := by
      intro i hi
      obtain ⟨cs', h1, h2⟩ := hx i (by omega)
      obtain ⟨h3, h4⟩ := cells_get h1
      obtain ⟨zs, rfl, h5, h6⟩ := open_ints_cells Tryz.underlying26 Tryz.underlying5 (by kernel_rfl) hc32 h3 h2
      obtain ⟨y, e⟩ := hs_of h5 h6
      exact ⟨y, fun j v hv => h4 j v (by rw [e]; exact hv)⟩
    obtain ⟨f, hf⟩ := Go.Deep.choose_lt each
    refine ⟨some a, len, cap, (List.range len).map f, rfl, by simp, fun hn => ⟨a, rfl, ?_, fun j v hv => ?_⟩⟩
    · have h0 : (f 0).c[0]? = some ((f 0).c[0]'(by rw [Hs.c_len]; omega)) := List.getElem?_eq_getElem _
      have := lt_of_cell (hf 0 hn 0 _ h0)
      rwa [add_block, add_block] at this
    · have hj : j < (flat ((List.range len).map f)).length := (List.getElem?_eq_some_iff.1 hv).1
      rw [flat_length, List.length_map, List.length_range] at hj
      have hi : j / 32 < len := by omega
      have hr : j % 32 < (f (j / 32)).c.length := by rw [Hs.c_len]; omega
      have h1 := flat_at (d := (List.range len).map f) (i := j / 32) (x := f (j / 32)) (by simp [hi]) [] (List.getElem?_eq_getElem hr)
      rw [List.append_nil, show j / 32 * 32 + j % 32 = j by omega] at h1
      have h2 := hf _ hi _ _ (List.getElem?_eq_getElem hr)
      rw [add_add, show j / 32 * 32 + j % 32 = j by omega] at h2
      rw [h1] at hv
      cases hv
      exact h2
set_option maxRecDepth 100000 in
theorem lifted (os : Os) (started : os.Started) (H : Type) (enc : TypeId × Value → H) :
    ReturnsInHanded {} Tryz.checked os 3 .any (Rows.entrySortsSpec.pre6 enc Tryz.prog Tryz.f3 Rows.entrySortsRow.domain false) (Rows.entrySortsSpec.post enc Tryz.prog Tryz.f3 false true false false) := by
  refine returnsInHanded_of_change (C := Tryz.checked) own started (by kernel_rfl) Tryz.func3
    (ChangeSpec.witness6 (enc := enc) (C := Tryz.checked) false ⟨#[], #[.slice none 0 0], []⟩ 8 (by kernel_rfl) (by kernel_rfl) (by kernel_rfl) (by kernel_rfl)) ?_
  intro W base args ds gs before hval0 hW hcnd _
  have hval : ∀ (j : Nat) t v, Tryz.f3.params[j]? = some t → args[j]? = some v → Value.okWide Tryz.prog W .any base t v := hval0
  have hW' := hW
  obtain ⟨p, q, hA0, hV, rfl, hfz, hnd⟩ := hW
  have hA : DataW.TrodAll enc Tryz.prog W 0 (fun _ => true) true Tryz.f3.params.toList args.toList ds p := hA0
  rw [Tryz.params3] at hA hval
  obtain ⟨v0, vs0, d0, ds0, p0, q0, hargs0, rfl, rfl, h0, r0⟩ := trodAll_cons hA
  obtain ⟨rfl, rfl, rfl⟩ := trodAll_nil r0
  obtain rfl : args = #[v0] := by cases args; simp_all
  obtain ⟨rfl, rfl⟩ := trodVars_none hV
  obtain ⟨a0, len0, cap0, rfl⟩ := okWide_slice Tryz.underlying22 (hval 0 22 v0 rfl rfl)
  have k0 := h0
  have lt0 : ∀ x ∈ p0, x.block < W.heap.size := by obtain ⟨m, hm⟩ := k0; exact DataW.trod_lt m _ _ _ hm
  obtain ⟨D0, w0⟩ : ∃ D, RdH W a0 len0 D := by
    obtain ⟨fuel, hf⟩ := h0
    obtain ⟨A, n, c, D, e, h1⟩ := open_names hf
    injection e with e1 e2 e3
    subst e1 e2 e3
    exact ⟨D, h1⟩
  clear hA0 hval0
  refine (sorts_walk awake17 a0 len0 cap0 D0 W w0).mono fun e W' ⟨he, bel⟩ => ?_
  subst he
  exact ⟨_, rfl, _, _, _, [], _, [], hW', trodAll_mk1 (shut_bool Tryz.underlying4 _), (trodAll_cons_mk (Below.trod laidOut (by kernel_rfl) (of_decide_eq_true (by kernel_rfl)) k0 bel lt0) trodAll_mk0), rfl, bel.frame _, fun h => by cases h⟩

theorem over : Rows.entrySortsRow.holds Tryz.pinned (OpenSpec.ofChange Rows.entrySortsSpec) :=
  OpenClaim.holds_of_wide 3 Tryz.f3 rfl rfl rfl rfl rfl rfl rfl ⟨rfl, rfl, rfl, rfl, rfl⟩ rfl rfl rfl rfl rfl (by kernel_rfl) Tryz.func3 (by kernel_rfl)
    (of_decide_eq_true (by kernel_rfl)) (by unfold Func.isWrapper; first | (rw [if_pos (by decide +kernel)]; kernel_rfl) | (rw [if_neg (by decide +kernel)]; exact ⟨rfl, rfl⟩))
    (fun os started H enc _ => lifted os started H enc)

theorem proved : Rows.EntrySortsSaid := over
#print axioms proved
end Go.Proofs.YtkhadfliandpmaaGreat.entrySorts
