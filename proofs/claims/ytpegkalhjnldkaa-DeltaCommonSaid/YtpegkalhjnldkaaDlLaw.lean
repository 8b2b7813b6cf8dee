/- For any numbers: how many stand in both lists in the same order is what the document's table says, the law DeltaCommon returns true, and nothing that was there is changed; no condition but the form's own reach. -/
import Derived.Test.YtpegkalhjnldkaaRows
import Derived.Test.YtpegkalhjnldkaaDk
import Derived.Test.YtpegkalhjnldkaaDo
import Derived.Deep.Slices
import Derived.WalkKit
import Derived.ProofKit
import Derived.OpenShut
import Derived.ShutString
import Derived.ChangeOld
import Derived.Below
import Derived.ChangeSame
import Derived.ChangeSlices
namespace Go.Proofs.Ytpegkalhjnldkaa.deltaCommon
open Go.ChangeShapes Go.WideShapes Go.ChangeAt Go.RowKit
set_option linter.unusedVariables false
set_option linter.unusedSimpArgs false

theorem own : ownKnob Try.prog.godebug = none := by kernel_rfl
theorem laidOut : laidOutB Try.prog = true := by kernel_rfl
/-- Numbers that came in. -/
theorem open_nums {H : Type} {enc : TypeId × Value → H} {w : World} {base : Nat} {spare : Nat → Bool} {held : Bool} {v : Value} {fuel : Nat} {x : DataW H × List MemPlace} (h : DataW.trod enc Try.prog w base spare held fuel 22 [v] = some x) :
    ∃ A n cap D, v = .slice A n cap ∧ RdU w A n D ∧ ∀ y ∈ D, (Lit.int .u64 y).wf = true := by
  rcases open_ints Try.underlying22 Try.underlying39 (by kernel_rfl) h with ⟨hcs, _⟩ | ⟨a, len, cap, zs, hcs, _, hl, hm, hz, _, hcell, hwz⟩
  · obtain rfl : v = .slice none 0 0 := by simpa using hcs
    exact ⟨none, 0, 0, [], rfl, ⟨rfl, fun h => absurd h (by omega)⟩, fun y hy => by cases hy⟩
  · obtain rfl : v = .slice (some a) len cap := by simpa using hcs
    have hml : len ≤ zs.length := by rw [hz]; split <;> omega
    refine ⟨some a, len, cap, zs.take len, rfl, ⟨by rw [List.length_take]; omega, fun h0 => ?_⟩, fun y hy => hwz y (List.mem_of_mem_take hy)⟩
    have h1 := hcell 0 (by omega)
    have hs := World.cell?_spot h1
    have hs' : a.spot = none := by
      unfold Addr.add at hs
      rwa [if_pos rfl] at hs
    obtain ⟨b, o, sp⟩ := a
    simp only at hs'
    subst hs'
    have hadd : ∀ i, (⟨b, o, none⟩ : Addr).add i = ⟨b, o + i, none⟩ := fun i => by unfold Addr.add; split <;> simp_all
    refine ⟨b, o, rfl, ?_, fun i x hx => ?_⟩
    · rw [hadd] at h1
      exact World.block_lt_of_cell? _ _ h1
    · have hi : i < zs.length := by
        have := (List.getElem?_eq_some_iff.1 hx).1
        rw [List.length_take] at this
        omega
      have h2 := hcell i hi
      rw [hadd] at h2
      rw [h2]
      have h3 := (List.getElem?_eq_some_iff.1 hx)
      obtain ⟨h4, h5⟩ := h3
      rw [List.getElem_take] at h5
      rw [← h5]
      simp [List.getD, hi]

set_option maxRecDepth 100000 in
theorem lifted (hA : ∀ w : World, Calls Try.prog 4 #[] w fun e w' => e = .returned (.bool true) ∧ Below w.heap.size w w') (os : Os) (started : os.Started) (H : Type) (enc : TypeId × Value → H) :
    ReturnsInHanded {} Try.checked os 3 .any (Rows.deltaCommonSpec.pre6 enc Try.prog Try.f3 Rows.deltaCommonRow.domain false) (Rows.deltaCommonSpec.post enc Try.prog Try.f3 false true false false) := by
  refine returnsInHanded_of_change (C := Try.checked) own started (by kernel_rfl) Try.func3
    (ChangeSpec.witness6 (enc := enc) (C := Try.checked) false ⟨#[], #[.slice none 0 0, .slice none 0 0], []⟩ 8 (by kernel_rfl) (by kernel_rfl) (by kernel_rfl) (by kernel_rfl)) ?_
  intro W base args ds gs before hval0 hW hcnd _
  have hval : ∀ (j : Nat) t v, Try.f3.params[j]? = some t → args[j]? = some v → Value.okWide Try.prog W .any base t v := hval0
  have hW' := hW
  obtain ⟨p, q, hA0, hV, rfl, hfz, hnd⟩ := hW
  have hAt : DataW.TrodAll enc Try.prog W 0 (fun _ => true) true Try.f3.params.toList args.toList ds p := hA0
  rw [Try.params3] at hAt hval
  obtain ⟨v0, vs0, d0, ds0, p0, q0, hargs0, rfl, rfl, h0, r0⟩ := trodAll_cons hAt
  obtain ⟨v1, vs1, d1, ds1, p1, q1, rfl, rfl, rfl, h1, r1⟩ := trodAll_cons r0
  obtain ⟨rfl, rfl, rfl⟩ := trodAll_nil r1
  obtain rfl : args = #[v0, v1] := by cases args; simp_all
  obtain ⟨rfl, rfl⟩ := trodVars_none hV
  obtain ⟨a0, len0, cap0, rfl⟩ := okWide_slice Try.underlying22 (hval 0 22 v0 rfl rfl)
  obtain ⟨a1, len1, cap1, rfl⟩ := okWide_slice Try.underlying22 (hval 1 22 v1 rfl rfl)
  have k0 := h0
  have k1 := h1
  have lt0 : ∀ x ∈ p0, x.block < W.heap.size := by obtain ⟨m, hm⟩ := k0; exact DataW.trod_lt m _ _ _ hm
  have lt1 : ∀ x ∈ p1, x.block < W.heap.size := by obtain ⟨m, hm⟩ := k1; exact DataW.trod_lt m _ _ _ hm
  obtain ⟨D0, w0, u0⟩ : ∃ D, RdU W a0 len0 D ∧ ∀ y ∈ D, (Lit.int .u64 y).wf = true := by
    obtain ⟨fuel, hf⟩ := h0
    obtain ⟨A, n, c, D, e, h1, h2⟩ := open_nums hf
    injection e with e1 e2 e3
    subst e1 e2 e3
    exact ⟨D, h1, h2⟩
  obtain ⟨D1, w1, u1⟩ : ∃ D, RdU W a1 len1 D ∧ ∀ y ∈ D, (Lit.int .u64 y).wf = true := by
    obtain ⟨fuel, hf⟩ := h1
    obtain ⟨A, n, c, D, e, h1, h2⟩ := open_nums hf
    injection e with e1 e2 e3
    subst e1 e2 e3
    exact ⟨D, h1, h2⟩
  clear hA0 hval0
  simp only [List.append_nil] at hW'
  refine (common_walk hA a0 a1 len0 len1 cap0 cap1 D0 D1 W w0 w1 u0 u1).mono fun e W' ⟨he, bel⟩ => ?_
  subst he
  exact ⟨_, rfl, _, _, _, [], _, [], hW', trodAll_mk1 (shut_bool Try.underlying4 _), (trodAll_cons_mk (Below.trod laidOut (by kernel_rfl) (of_decide_eq_true (by kernel_rfl)) k0 bel lt0) (trodAll_cons_mk (Below.trod laidOut (by kernel_rfl) (of_decide_eq_true (by kernel_rfl)) k1 bel lt1) trodAll_mk0)), rfl, bel.frame _, fun h => by cases h⟩

theorem over (hA : ∀ w : World, Calls Try.prog 4 #[] w fun e w' => e = .returned (.bool true) ∧ Below w.heap.size w w') : Rows.deltaCommonRow.holds Try.pinned (OpenSpec.ofChange Rows.deltaCommonSpec) :=
  OpenClaim.holds_of_wide 3 Try.f3 rfl rfl rfl rfl rfl rfl rfl ⟨rfl, rfl, rfl, rfl, rfl⟩ rfl rfl rfl rfl rfl (by kernel_rfl) Try.func3 (by kernel_rfl)
    (of_decide_eq_true (by kernel_rfl)) (by unfold Func.isWrapper; first | (rw [if_pos (by decide +kernel)]; kernel_rfl) | (rw [if_neg (by decide +kernel)]; exact ⟨rfl, rfl⟩))
    (fun os started H enc _ => lifted hA os started H enc)

theorem proved : Rows.DeltaCommonSaid := over awake13
#print axioms proved
end Go.Proofs.Ytpegkalhjnldkaa.deltaCommon
