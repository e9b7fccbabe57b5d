/- GraphOk of the program. -/
import Derived.Test.YtnppoeifhmkphaaGreatDoorZGBldI
namespace Go.Proofs.YtnppoeifhmkphaaGreatDoor
open Go.RowKit

set_option maxRecDepth 100000 in
set_option maxHeartbeats 1600000 in
theorem implGraphOk_c (v : Value) (g : Gr) (w : World) (hv : GR w v g) (l1 : g.nodes.length ≤ 10000000) (l3 : g.roots.length ≤ 10000000) (s64 : ns64 g.nodes) (ht : GTb w) :
    Calls Tryz.prog 8 #[v] w fun e w' => e = .returned (.bool (gokC g)) ∧ Below w.heap.size w w' := by
  obtain ⟨ra, rc, na, nc, rfl, hr, hn⟩ := hv.out
  have hb0 := bel_one w (.cells #[.slice ra g.roots.length rc, .slice na g.nodes.length nc, .int .i64 g.hash] 30)
  have B := implBuild_c _ g _ (hv.later hb0) l1 l3 s64 (ht.later hb0)
  generalize gokC g = ok at *
  generalize bldC g = r at *
  go_enter Tryz.func8, Tryz.ntmps8
  go_wp2_with fail
  refine B.mono ?_
  rintro e w1 ⟨⟨u, rfl, hu⟩, hb1⟩
  obtain ⟨ho1, hc1, ho2, hc2, ho3, hc3, rfl, -⟩ := hu.out
  have hbw := bel_after hb0 hb1
  go_wp2
  go_ret
  exact ⟨rfl, bel_after hbw (bel_one _ _)⟩

end Go.Proofs.YtnppoeifhmkphaaGreatDoor
