/- A slice of slices of bytes that came in, as an argument; for any bytes. -/
import Derived.Test.YtcdfbcpcgkcojaaDoorS256
import Derived.Test.YtcdfbcpcgkcojaaDoorRow
import Derived.Test.YtcdfbcpcgkcojaaDoorNy
import Derived.Deep.Matrix
namespace Go.Proofs.YtcdfbcpcgkcojaaDoor
open Go.RowKit

/-- A slice of slices of bytes that came in: nil, or a row of cap headers. -/
def IsRows (w : World) (a : Option Addr) (len cap : Nat) : Prop :=
  (a = none ∧ len = 0 ∧ cap = 0) ∨
  ∃ (x : Addr) (A : Nat → Option Addr) (L C : Nat → Nat) (Z : Nat → List Int), a = some x ∧ len ≤ cap ∧ cap ≤ maxLen ∧
    ∀ r, r < cap → w.cell? (x.add r) = some (.slice (A r) (L r) (C r)) ∧ L r ≤ C r ∧ C r ≤ maxLen ∧ (Z r).length = C r ∧ (∀ n ∈ Z r, (Lit.int .u8 n).wf = true) ∧ (A r = none → C r = 0) ∧
      ∀ a', A r = some a' → ∀ c, c < C r → w.cell? (a'.add c) = some (.int .u8 ((Z r).getD c 0))

theorem rows_parts {w : World} {a : Option Addr} {len cap : Nat} (h : IsRows w a len cap) :
    ∃ vs ps, Rd w (fun _ => True) a len vs ∧ Parts w (· < w.heap.size) vs ps ∧ len ≤ cap ∧ cap ≤ maxLen := by
  rcases h with ⟨rfl, rfl, rfl⟩ | ⟨x, A, L, C, Z, rfl, h1, h2, h3⟩
  · exact ⟨[], [], Rd.nil _ _ _, Parts.nil _ _, Nat.le_refl _, Nat.zero_le _⟩
  · refine ⟨(List.range len).map fun r => .slice (A r) (L r) (C r), (List.range len).map fun r => ((Z r).take (L r)).map Int.toNat, ⟨by simp, fun hn => ?_⟩, ⟨by simp, fun j p hj => ?_⟩, h1, h2⟩
    · have hb : x.block < w.heap.size := by
        have := lt_of_cell (h3 0 (by omega)).1
        rwa [add_block] at this
      refine ⟨x, rfl, trivial, hb, fun j u hu => ?_⟩
      have hj : j < len := by
        have := (List.getElem?_eq_some_iff.1 hu).1
        simpa using this
      rw [(h3 j (by omega)).1]
      simpa [hj] using hu
    · have hjl : j < len := by
        have := (List.getElem?_eq_some_iff.1 hj).1
        simpa using this
      obtain ⟨c1, c2, c3, c4, c5, c6, c7⟩ := h3 j (by omega)
      obtain rfl : ((Z j).take (L j)).map Int.toNat = p := by simpa [hjl] using hj
      refine ⟨fun y hy => ?_, A j, L j, C j, by simp [hjl], ?_⟩
      · obtain ⟨z, hz, rfl⟩ := List.mem_map.1 hy
        have hr := u8_range (c5 z (List.mem_of_mem_take hz))
        omega
      · refine ⟨by simp; omega, fun hn => ?_⟩
        cases hA : A j with
        | none => have := c6 hA; omega
        | some ad =>
          have hb : ad.block < w.heap.size := by
            have := lt_of_cell (c7 ad hA 0 (by omega))
            rwa [add_block] at this
          refine ⟨ad, rfl, hb, hb, fun i u hu => ?_⟩
          have hi : i < L j := by
            have := (List.getElem?_eq_some_iff.1 hu).1
            simp at this
            omega
          have hz : (Z j)[i]? = some ((Z j).getD i 0) := by rw [List.getD, List.getElem?_eq_getElem (by omega)]; rfl
          have hr := u8_range (c5 _ (List.mem_of_getElem? hz))
          rw [c7 ad hA i (by omega), ← hu, List.map_map, List.getElem?_map, List.getElem?_take, if_pos hi, hz]
          simp only [Option.map_some, Function.comp_def]
          congr 2
          omega

end Go.Proofs.YtcdfbcpcgkcojaaDoor
