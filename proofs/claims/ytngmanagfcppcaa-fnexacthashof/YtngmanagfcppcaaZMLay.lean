/- An object's header is laid down by the program. -/
import Derived.Test.YtngmanagfcppcaaZMFit
import Derived.Test.YtngmanagfcppcaaZMCpy
namespace Go.Proofs.Ytngmanagfcppcaa
open Go.RowKit


end Go.Proofs.Ytngmanagfcppcaa
