/- The program's own sum of a text. -/
import Derived.Test.YtimkdjolipnahaaDoorZTable
import Derived.Test.YtimkdjolipnahaaDoorZCrc
namespace Go.Proofs.YtimkdjolipnahaaDoor
open Go.RowKit



end Go.Proofs.YtimkdjolipnahaaDoor
