/- An element of an array of integers that is held as a value: over any program. -/
import Derived.Test.YtpegkalhjnldkaaArrEq
namespace Go.Proofs.Ytpegkalhjnldkaa
open Go.RowKit

theorem run_index_int {P : Program} (w : World) {t e : TypeId} {n : Nat} {i : TypeInfo} {k : IntKind} (hu : P.underlying t = some (.array n e)) (hi : P.info? e = some i) (hs : i.size = 1) (he : P.underlying e = some (.int k))
    (cs : Array Value) (j : Nat) (hj : j < n) (v : Value) (h : cs[j]? = some v) : (Instr.index t (.agg cs) (.int .i64 (j : Int))).run P w = .ok v w := by
  have hp := run_part_int w he cs j v h
  have hj' : (j : Int) < (n : Int) := by omega
  simp [Instr.index, run_underlying hu, asIntOf, hj, sizeOf, typeInfo, hi, hs, hp]

end Go.Proofs.Ytpegkalhjnldkaa
