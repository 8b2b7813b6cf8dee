/- What a reader's other calls come to, whatever its bytes are. -/
import Derived.Test.YtpegkalhjnldkaaEnd
import Derived.Test.YtpegkalhjnldkaaText
namespace Go.Proofs.Ytpegkalhjnldkaa
set_option maxRecDepth 100000
open Go.RowKit

/-- What reading comes to: a byte, a bool, bytes after their number, raw bytes: each with the place behind it, and what breaks the reader. -/
def rbyte (k : List UInt8) (p : Nat) : UInt8 × Nat × Int := match k[p]? with | none => (0, p, 2) | some c => (c, p + 1, 0)
def rbool (k : List UInt8) (p : Nat) : Bool × Nat × Int := match k[p]? with | none => (false, p, 2) | some c => if 1 < c.toNat then (false, p, 2) else (c.toNat == 1, p + 1, 0)
def rbytes (k : List UInt8) (p : Nat) (most : Int) : List UInt8 × Nat × Int :=
  match dec (k.drop p) with
  | none => ([], p, 2)
  | some (n, s) => if (max most 0).toNat < n then ([], p, 3) else if (k.drop p).length - s < n then ([], p, 2) else (((k.drop p).drop s).take n, p + (s + n), 0)
def rraw (k : List UInt8) (p : Nat) (n : Int) : List UInt8 × Nat × Int :=
  if ((k.drop p).length : Int) < n then ([], p, 2) else ((k.drop p).take n.toNat, p + n.toNat, 0)

theorem drop_zero_at {k : List UInt8} {p : Nat} {x : Option UInt8} (h : (k.drop p)[0]? = x) : k[p]? = x := by rw [List.getElem?_drop] at h; simpa using h

end Go.Proofs.Ytpegkalhjnldkaa
