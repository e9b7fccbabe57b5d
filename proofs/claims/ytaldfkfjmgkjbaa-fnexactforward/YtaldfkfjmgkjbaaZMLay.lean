/- An object's header is laid down by the program. -/
import Derived.Test.YtaldfkfjmgkjbaaZMFit
import Derived.Test.YtaldfkfjmgkjbaaZMCpy
namespace Go.Proofs.Ytaldfkfjmgkjbaa
open Go.RowKit


end Go.Proofs.Ytaldfkfjmgkjbaa
