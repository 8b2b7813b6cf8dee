/- Numbers that came in, as an argument; for any numbers. -/
import Derived.Test.YtaekepejeokciaaDoorRow
import Derived.Test.YtaekepejeokciaaDoorPlcA
namespace Go.Proofs.YtaekepejeokciaaDoor
open Go.RowKit

theorem irow_rd {w : World} {a : Option Addr} {len cap : Nat} {zs : List Int} (h : IsRow .i64 w a len cap zs) :
    Rd w (fun j => j < w.heap.size) a len (Is (zs.take len)) ∧ len ≤ 9223372036854775807 := by
  rcases h with ⟨rfl, rfl, rfl, rfl⟩ | ⟨x, rfl, h1, h2, h3, h4, h5⟩
  · exact ⟨Rd.nil _ _ _, by omega⟩
  · unfold maxLen at h2
    refine ⟨⟨by simp [Is]; omega, fun hn => ?_⟩, by omega⟩
    have hb : x.block < w.heap.size := by
      have := h4 0 (by omega)
      have := lt_of_cell this
      rwa [add_block] at this
    refine ⟨x, rfl, hb, hb, fun j u hu => ?_⟩
    have hj : j < len := by
      have := (List.getElem?_eq_some_iff.1 hu).1
      simp [Is] at this
      omega
    have hz : zs[j]? = some (zs.getD j 0) := by rw [List.getD, List.getElem?_eq_getElem (by omega)]; rfl
    rw [h4 j (by omega), ← hu, Is_get, List.getElem?_take, if_pos hj, hz]
    rfl

end Go.Proofs.YtaekepejeokciaaDoor
