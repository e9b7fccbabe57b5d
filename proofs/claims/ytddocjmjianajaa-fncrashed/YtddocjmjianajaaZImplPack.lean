/- PackPage of the program. -/
import Derived.Test.YtddocjmjianajaaZMC
namespace Go.Proofs.Ytddocjmjianajaa
open Go.RowKit


end Go.Proofs.Ytddocjmjianajaa
