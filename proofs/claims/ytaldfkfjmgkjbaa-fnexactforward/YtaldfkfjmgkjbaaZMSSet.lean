/- SetRoot of the model. -/
import Derived.Test.YtaldfkfjmgkjbaaZMSAdd
import Derived.Test.YtaldfkfjmgkjbaaZMBox
import Derived.Test.YtaldfkfjmgkjbaaZHM
namespace Go.Proofs.Ytaldfkfjmgkjbaa
open Go.RowKit



end Go.Proofs.Ytaldfkfjmgkjbaa
