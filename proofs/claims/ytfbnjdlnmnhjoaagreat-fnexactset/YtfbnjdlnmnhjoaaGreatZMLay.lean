/- An object's header is laid down by the program. -/
import Derived.Test.YtfbnjdlnmnhjoaaGreatZMFit
import Derived.Test.YtfbnjdlnmnhjoaaGreatZMCpy
namespace Go.Proofs.YtfbnjdlnmnhjoaaGreat
open Go.RowKit


end Go.Proofs.YtfbnjdlnmnhjoaaGreat
