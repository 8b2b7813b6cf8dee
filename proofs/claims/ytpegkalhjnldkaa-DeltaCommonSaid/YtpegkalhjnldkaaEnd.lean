/- What a reader tells of its error and of its end, how one is made, and what a writer tells; for any bytes up to 2^47. -/
import Derived.Test.YtpegkalhjnldkaaRead
import Derived.StillTailTactics
namespace Go.Proofs.Ytpegkalhjnldkaa
open Go.RowKit

end Go.Proofs.Ytpegkalhjnldkaa
