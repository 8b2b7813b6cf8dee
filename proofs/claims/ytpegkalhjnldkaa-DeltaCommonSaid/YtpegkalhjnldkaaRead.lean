/- A reader of fields in memory, and what reading a number makes of it; for any bytes up to 2^47. -/
import Derived.Test.YtpegkalhjnldkaaSplit
import Derived.Test.YtpegkalhjnldkaaWrite
namespace Go.Proofs.Ytpegkalhjnldkaa
open Go.RowKit

section
variable {w w' : World} {g : Nat} {A : Option Addr} {c : Nat} {F : Nat → Prop} {k : List UInt8} {p : Nat} {code : Int}
end

/-- What reading a number comes to: the number, the place, what broke it. -/
def rnum (k : List UInt8) (p most : Nat) : Nat × Nat × Int :=
  match dec (k.drop p) with
  | none => (0, p, 2)
  | some (n, s) => if most < n then (0, p, 15) else (n, p + s, 0)

end Go.Proofs.Ytpegkalhjnldkaa
