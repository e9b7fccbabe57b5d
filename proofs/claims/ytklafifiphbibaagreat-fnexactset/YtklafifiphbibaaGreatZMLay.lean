/- An object's header is laid down by the program. -/
import Derived.Test.YtklafifiphbibaaGreatZMFit
import Derived.Test.YtklafifiphbibaaGreatZU1
namespace Go.Proofs.YtklafifiphbibaaGreat
open Go.RowKit


end Go.Proofs.YtklafifiphbibaaGreat
