/- Bytes that came in, as an argument; for any bytes. -/
import Derived.Test.YtcdfbcpcgkcojaaDoorBase
import Derived.Test.YtcdfbcpcgkcojaaDoorRows
import Derived.WalkKit
import Derived.ProofKit
import Derived.OpenShut
import Derived.ShutString
import Derived.ChangeOld
namespace Go.Proofs.YtcdfbcpcgkcojaaDoor
open Go.RowKit

theorem toNat_low {m : Nat} (h : m < 256) : (UInt8.ofNat m).toNat = m := by rw [UInt8.toNat_ofNat', Nat.mod_eq_of_lt (by simpa using h)]
/-- A slice of bytes that came in: nil, or a row of cap cells. -/
def IsRow (k : IntKind) (w : World) (a : Option Addr) (len cap : Nat) (zs : List Int) : Prop :=
  (a = none ∧ len = 0 ∧ cap = 0 ∧ zs = []) ∨
  ∃ x, a = some x ∧ len ≤ cap ∧ cap ≤ maxLen ∧ zs.length = cap ∧ (∀ i, i < zs.length → w.cell? (x.add i) = some (.int k (zs.getD i 0))) ∧ ∀ n ∈ zs, (Lit.int k n).wf = true

theorem u8_range {n : Int} (h : (Lit.int .u8 n).wf = true) : 0 ≤ n ∧ n ≤ 255 := by
  have := bounds_u8 h
  omega

theorem row_rd {w : World} {a : Option Addr} {len cap : Nat} {zs : List Int} (h : IsRow .u8 w a len cap zs) :
    ∃ k : List UInt8, Rd w (fun j => j < w.heap.size) a len (Bs k) ∧ len ≤ cap ∧ cap ≤ maxLen := by
  rcases h with ⟨rfl, rfl, rfl, rfl⟩ | ⟨x, rfl, h1, h2, h3, h4, h5⟩
  · exact ⟨[], Rd.nil _ _ _, Nat.le_refl _, by unfold maxLen; omega⟩
  · refine ⟨(zs.take len).map fun n => UInt8.ofNat n.toNat, ⟨by simp [Bs]; omega, fun hn => ?_⟩, h1, h2⟩
    have hb : x.block < w.heap.size := by
      have := h4 0 (by omega)
      have := lt_of_cell this
      rwa [add_block] at this
    refine ⟨x, rfl, hb, hb, fun j u hu => ?_⟩
    have hj : j < len := by
      have := (List.getElem?_eq_some_iff.1 hu).1
      simp [Bs] at this
      omega
    have hz : zs[j]? = some (zs.getD j 0) := by rw [List.getD, List.getElem?_eq_getElem (by omega)]; rfl
    rw [h4 j (by omega), ← hu]
    have hr := u8_range (h5 _ (List.mem_of_getElem? hz))
    rw [Bs_get, List.getElem?_map, List.getElem?_take, if_pos hj, hz]
    simp only [Option.map_some]
    rw [toNat_low (by omega)]
    congr 2
    omega

/-- Bytes, as numbers. -/
theorem bs_nat (k : List UInt8) : Bs k = (k.map UInt8.toNat).map fun x => .int .u8 ((x : Nat) : Int) := by simp [Bs]
theorem bs_lt (k : List UInt8) : ∀ x ∈ k.map UInt8.toNat, x < 256 := by
  intro x hx
  obtain ⟨c, _, rfl⟩ := List.mem_map.1 hx
  exact UInt8.toNat_lt c
end Go.Proofs.YtcdfbcpcgkcojaaDoor
