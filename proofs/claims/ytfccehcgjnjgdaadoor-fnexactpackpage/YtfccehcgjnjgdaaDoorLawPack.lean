/- The law on PackPage, walked. -/
import Derived.Test.YtfccehcgjnjgdaaDoorImplPack
namespace Go.Proofs.YtfccehcgjnjgdaaDoor
open Go.RowKit

set_option maxRecDepth 100000 in
set_option maxHeartbeats 1000000 in
theorem lawPack_any (n e : Int) (b : ByteArray) (te : TypeId) (pe : Addr) (w : World) (hv : w.cell? ⟨0, 0, none⟩ = some (.iface te (.pointer (some pe)))) (ht : Tb w) :
    Calls Tryd.prog 3 #[.int .i64 n, .int .i64 e, .string b] w fun x w' => x = .returned (.bool true) ∧ Below w.heap.size w w' := by
  by_cases hs : b.size ≤ 1048576
  · have h1 : ¬ (1048576 : Int) < (b.size : Int) := by omega
    go_enter Tryd.func3, Tryd.ntmps3
    go_wp2_with fail
    refine (packPage_any n e b _).mono ?_
    rintro x w1 ⟨rfl, hb1⟩
    go_wp2_with fail
    refine (implPack_any n e b te pe w1 (cell_later hb1 hv) (ht.later hb1)).mono ?_
    rintro x w2 ⟨rfl, hb2⟩
    clear hv ht
    go_wp2
    go_ret
    exact ⟨rfl, bel_after hb1 hb2⟩
  · have h1 : (1048576 : Int) < (b.size : Int) := by omega
    go_enter Tryd.func3, Tryd.ntmps3
    go_wp2
    go_ret
    exact ⟨rfl, Below.refl _ _⟩

end Go.Proofs.YtfccehcgjnjgdaaDoor
