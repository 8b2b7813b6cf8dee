/- The writer's Text; for any text. -/
import Derived.Test.YtpegkalhjnldkaaText
import Derived.Test.YtpegkalhjnldkaaWriteB
namespace Go.Proofs.Ytpegkalhjnldkaa
open Go.RowKit

end Go.Proofs.Ytpegkalhjnldkaa
