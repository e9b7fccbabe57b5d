/- Crc of the model. -/
import Derived.Test.YtimkdjolipnahaaDoorRows
import Derived.Test.YtimkdjolipnahaaDoorZSum
namespace Go.Proofs.YtimkdjolipnahaaDoor
open Go.RowKit

theorem tmod2 (c : Nat) : Int.tmod (c : Int) 2 = ((c % 2 : Nat) : Int) := (Int.ofNat_tmod c 2).symm
theorem tdiv2 (c : Nat) : Int.tdiv (c : Int) 2 = ((c / 2 : Nat) : Int) := (Int.ofNat_tdiv c 2).symm


end Go.Proofs.YtimkdjolipnahaaDoor
