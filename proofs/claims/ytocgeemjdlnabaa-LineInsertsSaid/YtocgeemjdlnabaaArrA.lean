/- Arrays of integers that came in, as arguments: over any program. -/
import Derived.Test.YtocgeemjdlnabaaRowz
import Derived.WideKeyArr2
import Derived.WalkKit
import Derived.OpenShut
import Derived.ChangeArms
namespace Go.Proofs.Ytocgeemjdlnabaa
open Go.RowKit Go.ChangeShapes Go.WideShapes

section
variable {H : Type} {enc : TypeId × Value → H} {P : Program} {t e : TypeId} {n : Nat} {q : IntKind} {W : World} {base : Nat} {sp : Nat → Bool} {held : Bool}
theorem trod_each (he : P.underlying e = some (.int q)) {m : Nat} {cs : List Value} : ∀ (L : List Nat) (xs : List (DataW H × List MemPlace)),
    L.mapM (fun i => DataW.trod enc P W base sp held m e ((cs.drop (i * 1)).take 1)) = some xs →
    ∃ zs : List Int, xs = zs.map (fun z => (.lit (.int q z), [])) ∧ (∀ z ∈ zs, (Lit.int q z).wf = true) ∧ L.map (fun i => (cs.drop (i * 1)).take 1) = zs.map fun z => [.int q z]
  | [], xs, h => by
    simp at h
    subst h
    exact ⟨[], rfl, by simp, rfl⟩
  | i :: L, xs, h => by
    rw [List.mapM_cons] at h
    simp only [bind, Option.bind_eq_some_iff, pure, Option.some.injEq] at h
    obtain ⟨y, hy, ys, hys, rfl⟩ := h
    obtain ⟨zs, rfl, hw, hl⟩ := trod_each he L ys hys
    obtain ⟨a, ea, rfl, wa⟩ := DataW.trod_int he hy
    refine ⟨a :: zs, rfl, fun z hz => ?_, ?_⟩
    · rcases List.mem_cons.1 hz with rfl | hz
      · exact wa
      · exact hw z hz
    · rw [List.map_cons, List.map_cons, hl, ea]
/-- An array of integers: its cells. -/
theorem open_ints_arr (hu : P.underlying t = some (.array n e)) (he : P.underlying e = some (.int q)) (hc : P.cellsOf e = 1) (hs : P.cellsOf t = n) {r : Reach} {b0 : Nat} {v : Value} (hv : Value.okWide P W r b0 t v)
    {d : DataW H} {ps : List MemPlace} (hd : DataW.Trod enc P W base sp held t v d ps) : ∃ zs : List Int, v = .agg (zs.map (Value.int q)).toArray ∧ zs.length = n ∧ ∀ z ∈ zs, (Lit.int q z).wf = true := by
  simp only [Value.okWide, hu] at hv
  obtain ⟨xs, rfl, hn, _⟩ := hv
  rw [hs] at hn
  obtain ⟨fuel, hf⟩ := hd
  cases fuel with
  | zero => simp [DataW.trod] at hf
  | succ m =>
    rw [DataW.trod_step] at hf
    unfold DataW.trodStep at hf
    simp only [hu, Value.cells] at hf
    rw [if_pos (by rw [hs]; simpa using hn)] at hf
    simp only [Option.map_eq_some_iff] at hf
    obtain ⟨ys, hy, _⟩ := hf
    rw [hc] at hy
    obtain ⟨zs, rfl, hw, hl⟩ := trod_each he _ ys hy
    have hlen : zs.length = n := by
      have := congrArg List.length hl
      simpa using this.symm
    refine ⟨zs, ?_, hlen, hw⟩
    congr 1
    have e1 : xs.toList = zs.map (Value.int q) := by
      refine List.ext_getElem? fun i => ?_
      by_cases hi : i < n
      · have h1 := congrArg (fun l : List (List Value) => l[i]?) hl
        simp only [List.getElem?_map, List.getElem?_range hi, Option.map_some, Nat.mul_one] at h1
        have h2 : i < zs.length := by omega
        have h3 : i < xs.toList.length := by rw [Array.length_toList]; omega
        rw [List.getElem?_eq_getElem h2, Option.map_some] at h1
        have h4 := Option.some.inj h1
        rw [List.drop_eq_getElem_cons h3] at h4
        simp at h4
        rw [List.getElem?_map, List.getElem?_eq_getElem h2, List.getElem?_eq_getElem h3]
        simpa using h4
      · rw [List.getElem?_eq_none (by rw [Array.length_toList]; omega), List.getElem?_eq_none (by rw [List.length_map]; omega)]
    rw [← e1]
end

end Go.Proofs.Ytocgeemjdlnabaa
