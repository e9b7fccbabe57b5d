/- The walk of the law on ReadCode. -/
import Derived.Test.YtimkdjolipnahaaDoorZQOpen
import Derived.Test.YtimkdjolipnahaaDoorZQRdS
namespace Go.Proofs.YtimkdjolipnahaaDoor
open Go.ChangeShapes Go.WideShapes Go.ChangeAt Go.RowKit Go.Joins



end Go.Proofs.YtimkdjolipnahaaDoor
