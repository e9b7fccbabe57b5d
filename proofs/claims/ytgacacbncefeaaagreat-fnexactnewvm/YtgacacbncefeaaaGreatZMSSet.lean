/- SetRoot of the model. -/
import Derived.Test.YtgacacbncefeaaaGreatZW2
import Derived.Test.YtgacacbncefeaaaGreatZHM
namespace Go.Proofs.YtgacacbncefeaaaGreat
open Go.RowKit



end Go.Proofs.YtgacacbncefeaaaGreat
