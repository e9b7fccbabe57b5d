/- An object's header is laid down by the program. -/
import Derived.Test.YtngmanagfcppcaaGreatZMFit
import Derived.Test.YtngmanagfcppcaaGreatZMCpy
namespace Go.Proofs.YtngmanagfcppcaaGreat
open Go.RowKit


end Go.Proofs.YtngmanagfcppcaaGreat
