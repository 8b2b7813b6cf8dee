/- Bytes as cells, by their numbers. -/
import Derived.Test.YtcdfbcpcgkcojaaDoorBase
namespace Go.Proofs.YtcdfbcpcgkcojaaDoor
open Go.RowKit

/-- Bytes as cells. -/
def Ny (l : List Nat) : List Value := l.map fun x => .int .u8 ((x : Nat) : Int)
theorem Ny_len (l : List Nat) : (Ny l).length = l.length := by simp [Ny]
theorem Ny_get (l : List Nat) (k : Nat) : (Ny l)[k]? = l[k]?.map fun x => .int .u8 ((x : Nat) : Int) := by simp [Ny]
theorem Ny_append (l m : List Nat) : Ny (l ++ m) = Ny l ++ Ny m := by simp [Ny]
theorem Ny_one (l : List Nat) : ∀ u ∈ Ny l, u.oneCell' = true := by
  intro u hu
  simp only [Ny, List.mem_map] at hu
  obtain ⟨c, _, rfl⟩ := hu
  rfl

end Go.Proofs.YtcdfbcpcgkcojaaDoor
