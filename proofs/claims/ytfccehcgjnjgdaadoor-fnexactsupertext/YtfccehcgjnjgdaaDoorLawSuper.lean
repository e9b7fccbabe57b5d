/- The law on SuperText, walked. -/
import Derived.Test.YtfccehcgjnjgdaaDoorSuperS
import Derived.Test.YtfccehcgjnjgdaaDoorSuperI
namespace Go.Proofs.YtfccehcgjnjgdaaDoor
open Go.RowKit

set_option maxRecDepth 100000 in
set_option maxHeartbeats 1000000 in
theorem lawSuper_any (e : Int) (v : Value) (l : List Int) (w : World) (hv : IR w v l) (ht : Tb w) :
    Calls Tryd.prog 5 #[.int .i64 e, v] w fun x w' => x = .returned (.bool true) ∧ Below w.heap.size w w' := by
  have HV : Hid (IR w v l) := hv
  obtain ⟨ao, cap, rfl, _, _⟩ := hv
  by_cases hs : l.length ≤ 1048576
  · have h1 : ¬ (1048576 : Int) < (l.length : Int) := by omega
    go_enter Tryd.func5, Tryd.ntmps5
    go_wp2_with fail
    refine (toInt64S_any _ l _ HV.out (by omega)).mono ?_
    rintro x w1 ⟨v1, rfl, hr1, hb1⟩
    go_wp2_with fail
    refine (specSuper_any e v1 l _ hr1 (by omega)).mono ?_
    rintro x w2 ⟨rfl, hb2⟩
    have hb12 := bel_after hb1 hb2
    go_wp2_with fail
    refine (toInt64S_any _ l _ (HV.out.later hb12) (by omega)).mono ?_
    rintro x w3 ⟨v3, rfl, hr3, hb3⟩
    have hb13 := bel_after hb12 hb3
    go_wp2_with fail
    refine (implSuper_any e v3 l _ hr3 (by omega) (ht.later hb13)).mono ?_
    rintro x w4 ⟨rfl, hb4⟩
    have hb14 := bel_after hb13 hb4
    go_wp2_with fail
    refine (toInt64S_any _ l _ (HV.out.later hb14) (by omega)).mono ?_
    rintro x w5 ⟨v5, rfl, hr5, hb5⟩
    have hb15 := bel_after hb14 hb5
    go_wp2_with fail
    refine (eqInt64S_any v3 v5 l l _ (hr3.later (bel_after hb4 hb5)) hr5 (by omega) (by omega)).mono ?_
    rintro x w6 ⟨rfl, hb6⟩
    rw [decide_eq_true rfl]
    go_wp2
    go_ret
    exact ⟨rfl, bel_after hb15 hb6⟩
  · have h1 : (1048576 : Int) < (l.length : Int) := by omega
    go_enter Tryd.func5, Tryd.ntmps5
    go_wp2
    go_ret
    exact ⟨rfl, Below.refl _ _⟩

end Go.Proofs.YtfccehcgjnjgdaaDoor
