/- Tables of integers that a row lists: what lies in their blocks. Nothing here names a dump. -/
import Derived.Test.YthpbipebpaeagaaDoorRowz
import Derived.Lib.LaidTab
import Derived.LaidLaws
import Derived.LaidHandle
namespace Go.Proofs.YthpbipebpaeagaaDoor
open Go.RowKit

theorem laidVar_at {P : Program} {w : World} : ∀ {l : List (String × DataW Unit)} {ps : List MemPlace}, DataW.LaidVars P w l ps → ∀ n d, (n, d) ∈ l →
    ∃ g t cs fuel p, P.globalNamed n = some g ∧ (P.globals[g]?).map (·.type) = some t ∧ w.var? P n = some cs ∧ DataW.trod (fun _ => ()) P w 0 (fun _ => true) false fuel t cs.toList = some (d, p) ∧ ∀ x ∈ MemPlace.row ⟨g, 0, none⟩ cs.size, x ∈ ps
  | [], _, _, _, _, hm => by cases hm
  | (n', d') :: r, ps, h, n, d, hm => by
    obtain ⟨g, t, cs, fuel, p, q, h1, h2, h3, h4, h5, h6⟩ := h
    subst h6
    rcases List.mem_cons.1 hm with e | e
    · cases e
      exact ⟨g, t, cs, fuel, p, h1, h2, h3, h4, fun x hx => List.mem_append_left _ (List.mem_append_left _ hx)⟩
    · obtain ⟨g', t', cs', fuel', p', a1, a2, a3, a4, a5⟩ := laidVar_at h5 n d e
      exact ⟨g', t', cs', fuel', p', a1, a2, a3, a4, fun x hx => List.mem_append_right _ (a5 x hx)⟩

/-- A listed table: its block, its cells. -/
theorem table_of_laid {P : Program} {W : World} {l : List (String × DataW Unit)} (h : laidMet P l W) {name : String} {k : IntKind} {zs : List Int} (hm : (name, Lib.tabData k zs) ∈ l) {g : Nat} {t e : TypeId} {n : Nat}
    (hg : P.globalNamed name = some g) (hty : (P.globals[g]?).map (·.type) = some t) (ht : P.underlying t = some (.array n e)) (he : P.underlying e = some (.int k)) (hce : P.cellsOf e = 1) (hct : P.cellsOf t = n) (h0 : 0 < zs.length) :
    ∃ c t', W.heap[g]? = some (.cells c t' (0, 0)) ∧ ∀ i, i < zs.length → c[i]? = some (.int k (zs.getD i 0)) := by
  obtain ⟨ps, hv, _, hrow⟩ := h
  obtain ⟨g', t1, cs, fuel, p, h1, h2, h3, h4, h5⟩ := laidVar_at hv name _ hm
  obtain rfl := Option.some.inj (hg.symm.trans h1)
  obtain rfl := Option.some.inj (hty.symm.trans h2)
  have hcs := Lib.cells_of_tab ht he hce hct h4
  have hsz : cs.size = zs.length := by rw [← Array.length_toList, hcs, List.length_map]
  obtain ⟨⟨c, t', hc⟩, _⟩ := hrow g 0 (h5 _ (by
    unfold MemPlace.row
    refine List.mem_map.2 ⟨0, List.mem_range.2 (by omega), ?_⟩
    rfl))
  refine ⟨c, t', hc, fun i hi => ?_⟩
  have hcell := World.var?_cell hg h3 i
  rw [cell_of_row W g i _ _ _ hc, ← Array.getElem?_toList, ← Array.getElem?_toList] at hcell
  rw [← Array.getElem?_toList, hcell, hcs, List.getElem?_map, List.getD, List.getElem?_eq_getElem hi]
  rfl
/-- The same, the block's cells whole. -/
theorem row_of_laid {P : Program} {W : World} {l : List (String × DataW Unit)} (h : laidMet P l W) {name : String} {k : IntKind} {zs : List Int} (hm : (name, Lib.tabData k zs) ∈ l) {g : Nat} {t e : TypeId} {n : Nat}
    (hg : P.globalNamed name = some g) (hty : (P.globals[g]?).map (·.type) = some t) (ht : P.underlying t = some (.array n e)) (he : P.underlying e = some (.int k)) (hce : P.cellsOf e = 1) (hct : P.cellsOf t = n) (h0 : 0 < zs.length) :
    ∃ t', W.heap[g]? = some (.cells (zs.map (Value.int k)).toArray t' (0, 0)) := by
  obtain ⟨ps, hv, _, hrow⟩ := h
  obtain ⟨g', t1, cs, fuel, p, h1, h2, h3, h4, h5⟩ := laidVar_at hv name _ hm
  obtain rfl := Option.some.inj (hg.symm.trans h1)
  obtain rfl := Option.some.inj (hty.symm.trans h2)
  have hcs := Lib.cells_of_tab ht he hce hct h4
  have hsz : cs.size = zs.length := by rw [← Array.length_toList, hcs, List.length_map]
  obtain ⟨⟨c, t', hc⟩, _⟩ := hrow g 0 (h5 _ (by
    unfold MemPlace.row
    refine List.mem_map.2 ⟨0, List.mem_range.2 (by omega), ?_⟩
    rfl))
  have hall : c = cs := by
    refine Array.ext_getElem? fun i => ?_
    have hcell := World.var?_cell hg h3 i
    rwa [cell_of_row W g i _ _ _ hc] at hcell
  refine ⟨t', ?_⟩
  rw [hc, hall, ← hcs]

end Go.Proofs.YthpbipebpaeagaaDoor
