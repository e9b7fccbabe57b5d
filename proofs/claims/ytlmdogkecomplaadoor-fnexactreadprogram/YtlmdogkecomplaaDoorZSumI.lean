/- The program's own sum of a text. -/
import Derived.Test.YtlmdogkecomplaaDoorZTable
import Derived.Test.YtlmdogkecomplaaDoorZCrc
namespace Go.Proofs.YtlmdogkecomplaaDoor
open Go.RowKit



end Go.Proofs.YtlmdogkecomplaaDoor
