/- New of the model. -/
import Derived.Test.YtngmanagfcppcaaGreatZMSAdd
import Derived.Test.YtngmanagfcppcaaGreatZMBox
namespace Go.Proofs.YtngmanagfcppcaaGreat
open Go.RowKit


end Go.Proofs.YtngmanagfcppcaaGreat
