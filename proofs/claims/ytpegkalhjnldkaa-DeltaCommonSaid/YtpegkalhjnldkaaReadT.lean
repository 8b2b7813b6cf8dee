/- What a reader's calls for bytes, raw bytes, texts and signed numbers come to, whatever its bytes are. -/
import Derived.Test.YtpegkalhjnldkaaReadS
import Derived.Deep.RegionHeld3
namespace Go.Proofs.Ytpegkalhjnldkaa
set_option maxRecDepth 100000
open Go.RowKit

end Go.Proofs.Ytpegkalhjnldkaa
