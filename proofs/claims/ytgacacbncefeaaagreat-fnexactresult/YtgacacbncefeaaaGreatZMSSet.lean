/- SetRoot of the model. -/
import Derived.Test.YtgacacbncefeaaaGreatZV2
import Derived.Test.YtgacacbncefeaaaGreatZHM
namespace Go.Proofs.YtgacacbncefeaaaGreat
open Go.RowKit



end Go.Proofs.YtgacacbncefeaaaGreat
