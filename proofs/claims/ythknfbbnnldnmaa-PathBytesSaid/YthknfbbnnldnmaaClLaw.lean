/-
  For any two paths: the law PathBytes returns true, and nothing that was there is changed; no condition but the form's own reach. (The frame is written by the kit's program.)
-/
import Derived.Test.YthknfbbnnldnmaaRows
import Derived.Test.YthknfbbnnldnmaaCw
import Derived.WalkKit
import Derived.ProofKit
import Derived.OpenShut
import Derived.ShutString
import Derived.ChangeOld
import Derived.Below
import Derived.ChangeSame
namespace Go.Proofs.Ythknfbbnnldnmaa.pathBytes
open Go.ChangeShapes Go.WideShapes Go.ChangeAt Go.RowKit
set_option linter.unusedVariables false

theorem own : ownKnob Try.prog.godebug = none := by kernel_rfl
theorem laidOut : laidOutB Try.prog = true := by kernel_rfl
section
variable {H : Type} {enc : TypeId × Value → H} {w : World} {base : Nat} {spare : Nat → Bool} {held : Bool}
/-- A path that came in. -/
theorem trod_sts {fuel : Nat} {cs : List Value} {x : DataW H × List MemPlace} (h : DataW.trod enc Try.prog w base spare held fuel 22 cs = some x) :
    ∃ (a : Option Addr) (n c : Nat) (l : List Stp), cs = [.slice a n c] ∧ (n ≤ c ∧ c ≤ maxLen) ∧ Sts w a n l ∧ ∀ x ∈ l, StOk x := by
  rcases Go.Deep.open_slice_pairs Try.underlying22 Try.underlying42 (by kernel_rfl) rfl rfl (by kernel_rfl) (by kernel_rfl) h with ⟨rfl, _⟩ | ⟨a, len, cap, m, n, V0, V1, D0, D1, P0, P1, rfl, _, hl, hm, hmm, _, hc⟩
  · exact ⟨none, 0, 0, [], rfl, ⟨Nat.le_refl _, Nat.zero_le _⟩, ⟨rfl, fun h => absurd h (Nat.lt_irrefl 0)⟩, fun x hx => by cases hx⟩
  · have hlm : len ≤ m := by rw [hmm]; split <;> omega
    have each : ∀ i, i < len → ∃ y : Stp, V0 i = .string y.s ∧ V1 i = .int .u64 y.id ∧ StOk y := fun i hi => by
      obtain ⟨_, _, t0, t1⟩ := hc i (by omega)
      obtain ⟨s, e0, _, hs⟩ := DataW.trod_string Try.underlying9 t0
      obtain ⟨k, e1, _, hk⟩ := DataW.trod_int Try.underlying40 t1
      injection e0 with e0 _
      injection e1 with e1 _
      have hb := bounds_u64 hk
      exact ⟨⟨s, k⟩, e0, e1, hs, hb.1, by have := hb.2; show k < _; omega⟩
    have : Inhabited Stp := ⟨⟨ByteArray.empty, 0⟩⟩
    obtain ⟨y, hy⟩ := Go.Deep.choose_lt each
    refine ⟨some a, len, cap, (List.range len).map y, rfl, ⟨hl, hm⟩, ⟨by simp, fun hn => ⟨a, rfl, ?_, fun i x hx => ?_⟩⟩, fun x hx => ?_⟩
    · have h0 := lt_of_cell (hc 0 (by omega)).1
      rwa [add_block] at h0
    · obtain ⟨hil, hx⟩ := List.getElem?_eq_some_iff.1 hx
      have hil : i < len := by simpa using hil
      have hx : y i = x := by simpa using hx
      subst hx
      obtain ⟨c0, c1, _, _⟩ := hc i (by omega)
      rw [add_add]
      exact ⟨c0.trans (by rw [(hy i hil).1]), c1.trans (by rw [(hy i hil).2.1])⟩
    · obtain ⟨i, hi, rfl⟩ := List.mem_map.1 hx
      exact (hy i (List.mem_range.1 hi)).2.2
end
set_option maxRecDepth 100000 in
theorem lifted (os : Os) (started : os.Started) (H : Type) (enc : TypeId × Value → H) :
    ReturnsInHanded {} Try.checked os 3 .any (Rows.pathBytesSpec.pre6 enc Try.prog Try.f3 Rows.pathBytesRow.domain false) (Rows.pathBytesSpec.post enc Try.prog Try.f3 false true false false) := by
  refine returnsInHanded_of_change (C := Try.checked) own started (by kernel_rfl) Try.func3
    (ChangeSpec.witness6 (enc := enc) (C := Try.checked) false ⟨#[], #[.slice none 0 0, .slice none 0 0], []⟩ 8 (by kernel_rfl) (by kernel_rfl) (by kernel_rfl) (by kernel_rfl)) ?_
  intro W base args ds gs before hval0 hW hcnd _
  have hval : ∀ (j : Nat) t v, Try.f3.params[j]? = some t → args[j]? = some v → Value.okWide Try.prog W .any base t v := hval0
  have hW' := hW
  obtain ⟨p, q, hA0, hV, rfl, hfz, hnd⟩ := hW
  have hA : DataW.TrodAll enc Try.prog W 0 (fun _ => true) true Try.f3.params.toList args.toList ds p := hA0
  rw [Try.params3] at hA hval
  obtain ⟨v0, vs0, d0, ds0, p0, q0, hargs0, rfl, rfl, h0, r0⟩ := trodAll_cons hA
  obtain ⟨v1, vs1, d1, ds1, p1, q1, hargs1, rfl, rfl, h1, r1⟩ := trodAll_cons r0
  obtain ⟨rfl, rfl, rfl⟩ := trodAll_nil r1
  obtain rfl : args = #[v0, v1] := by cases args; simp_all
  obtain ⟨rfl, rfl⟩ := trodVars_none hV
  obtain ⟨a0, len0, cap0, rfl⟩ := okWide_slice Try.underlying22 (hval 0 22 v0 rfl rfl)
  obtain ⟨a1, len1, cap1, rfl⟩ := okWide_slice Try.underlying22 (hval 1 22 v1 rfl rfl)
  have k0 := h0
  have lt0 : ∀ x ∈ p0, x.block < W.heap.size := by obtain ⟨m, hm⟩ := k0; exact DataW.trod_lt m _ _ _ hm
  have k1 := h1
  have lt1 : ∀ x ∈ p1, x.block < W.heap.size := by obtain ⟨m, hm⟩ := k1; exact DataW.trod_lt m _ _ _ hm
  obtain ⟨l0, b0, w0, o0⟩ : ∃ l, (len0 ≤ cap0 ∧ cap0 ≤ maxLen) ∧ Sts W a0 len0 l ∧ ∀ x ∈ l, StOk x := by
    obtain ⟨fuel, hf⟩ := h0
    obtain ⟨a, n, c, l, hcs, hb, hl, ho⟩ := trod_sts hf
    simp [Value.cells] at hcs
    obtain ⟨rfl, rfl, rfl⟩ := hcs
    exact ⟨l, hb, hl, ho⟩
  obtain ⟨l1, b1, w1, o1⟩ : ∃ l, (len1 ≤ cap1 ∧ cap1 ≤ maxLen) ∧ Sts W a1 len1 l ∧ ∀ x ∈ l, StOk x := by
    obtain ⟨fuel, hf⟩ := h1
    obtain ⟨a, n, c, l, hcs, hb, hl, ho⟩ := trod_sts hf
    simp [Value.cells] at hcs
    obtain ⟨rfl, rfl, rfl⟩ := hcs
    exact ⟨l, hb, hl, ho⟩
  clear hA0 hval0
  refine (path_walk a0 a1 len0 cap0 len1 cap1 l0 l1 W w0 w1 o0 o1 b0 b1).mono fun e W' ⟨he, bel⟩ => ?_
  subst he
  exact ⟨_, rfl, _, _, _, [], _, [], hW', trodAll_mk1 (shut_bool Try.underlying4 _), (trodAll_cons_mk (Below.trod laidOut (by kernel_rfl) (of_decide_eq_true (by kernel_rfl)) k0 bel lt0) (trodAll_cons_mk (Below.trod laidOut (by kernel_rfl) (of_decide_eq_true (by kernel_rfl)) k1 bel lt1) trodAll_mk0)), rfl, bel.frame _, fun h => by cases h⟩

theorem over : Rows.pathBytesRow.holds Try.pinned (OpenSpec.ofChange Rows.pathBytesSpec) :=
  OpenClaim.holds_of_wide 3 Try.f3 rfl rfl rfl rfl rfl rfl rfl ⟨rfl, rfl, rfl, rfl, rfl⟩ rfl rfl rfl rfl rfl (by kernel_rfl) Try.func3 (by kernel_rfl)
    (of_decide_eq_true (by kernel_rfl)) (by unfold Func.isWrapper; first | (rw [if_pos (by decide +kernel)]; kernel_rfl) | (rw [if_neg (by decide +kernel)]; exact ⟨rfl, rfl⟩))
    (fun os started H enc _ => lifted os started H enc)

theorem proved : Rows.PathBytesSaid := over
#print axioms proved
end Go.Proofs.Ythknfbbnnldnmaa.pathBytes
