/- Crc of the model. -/
import Derived.Test.YtlmdogkecomplaaDoorRows
import Derived.Test.YtlmdogkecomplaaDoorZSum
namespace Go.Proofs.YtlmdogkecomplaaDoor
open Go.RowKit

theorem tmod2 (c : Nat) : Int.tmod (c : Int) 2 = ((c % 2 : Nat) : Int) := (Int.ofNat_tmod c 2).symm
theorem tdiv2 (c : Nat) : Int.tdiv (c : Int) 2 = ((c / 2 : Nat) : Int) := (Int.ofNat_tdiv c 2).symm


end Go.Proofs.YtlmdogkecomplaaDoor
