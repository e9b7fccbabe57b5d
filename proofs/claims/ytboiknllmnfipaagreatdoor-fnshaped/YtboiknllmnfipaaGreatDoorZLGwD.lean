import Derived.Test.YtboiknllmnfipaaGreatDoorZLGw
import Derived.Test.YtboiknllmnfipaaGreatDoorZLDraw
namespace Go.Proofs.YtboiknllmnfipaaGreatDoor
open Go.RowKit
theorem Dw.graph {N:Nat} {cv:Value} {cs:List UInt8} {w:World} (d0:Dw N cv cs w) (hN:N<w.heap.size):Calls Tryz.prog 38 #[.pointer (some ⟨N,0,none⟩)] w fun x w'=>Jdm w N cv cs x w' :=
 Jgp d0 hN (fun _ d h=>d.heap h)
end Go.Proofs.YtboiknllmnfipaaGreatDoor
