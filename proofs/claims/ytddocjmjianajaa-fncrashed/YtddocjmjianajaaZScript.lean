/- Script of the program and of the model. -/
import Derived.Test.YtddocjmjianajaaZSpecScr
import Derived.Test.YtddocjmjianajaaZDefScr
namespace Go.Proofs.Ytddocjmjianajaa
open Go.RowKit

theorem nw_of_owns {w : World} {B : Nat} {v : Value} {ws : List Disk.Wr} (h : w.ownsRow B 42 2 v ws.length (Disk.lcells ws)) : Disk.NW B w v ws := Disk.NO.nw (.inr h)



end Go.Proofs.Ytddocjmjianajaa
