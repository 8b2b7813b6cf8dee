/- What a writer leaves behind a byte, and behind bytes after their number; for rows of up to 2^47 bytes. -/
import Derived.Test.YtpegkalhjnldkaaWrite
namespace Go.Proofs.Ytpegkalhjnldkaa
open Go.RowKit

/-- A bool's byte. -/
def bb (b : Bool) : UInt8 := if b then 1 else 0

end Go.Proofs.Ytpegkalhjnldkaa
