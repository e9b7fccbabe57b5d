/- New of the model. -/
import Derived.Test.YtfbnjdlnmnhjoaaGreatZMSAdd
import Derived.Test.YtfbnjdlnmnhjoaaGreatZMBox
import Derived.Test.YtfbnjdlnmnhjoaaGreatZHM
namespace Go.Proofs.YtfbnjdlnmnhjoaaGreat
open Go.RowKit



end Go.Proofs.YtfbnjdlnmnhjoaaGreat
