/- New of the model. -/
import Derived.Test.YtngmanagfcppcaaZMSAdd
import Derived.Test.YtngmanagfcppcaaZMBox
namespace Go.Proofs.Ytngmanagfcppcaa
open Go.RowKit


end Go.Proofs.Ytngmanagfcppcaa
