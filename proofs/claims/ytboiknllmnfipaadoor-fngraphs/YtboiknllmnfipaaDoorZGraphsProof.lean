/- The law FnGraphs holds: for every code, nil too, the call returns true and the code reads as before; what is listed of the package-level variables is tied to the program's text. There are no other conditions. -/
import Derived.Test.YtboiknllmnfipaaDoorZGraphsFrame
import Derived.Test.YtboiknllmnfipaaDoorZU21
namespace Go.Proofs.YtboiknllmnfipaaDoor
open Go.ChangeShapes Go.WideShapes Go.ChangeAt Go.RowKit

/-- The statement. -/
theorem graphs_holds : Rows.FnGraphsCardSaid := graphs_of (fun cv cs w hc hn => drawSameGraph_any cv cs w hc hn)

#print axioms graphs_holds
end Go.Proofs.YtboiknllmnfipaaDoor
