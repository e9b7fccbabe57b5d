/- What recovers at the faces of a commit. -/
import Derived.Test.YtddocjmjianajaaRows
import Derived.WalkKit
import Derived.WalkSpells
import Derived.WalkLawsBesides
import Derived.WalkSmall
import Derived.Defers
import Derived.Recover
namespace Go.Proofs.Ytddocjmjianajaa
open Go.RowKit







end Go.Proofs.Ytddocjmjianajaa
