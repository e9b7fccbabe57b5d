/- Does an address lie in what the scavenger leaves? l9From of the model. -/
import Derived.Test.YtphkmgalgngjiaaZMA
import Derived.Test.YtphkmgalgngjiaaZHFns
namespace Go.Proofs.Ytphkmgalgngjiaa
open Go.RowKit

set_option maxHeartbeats 1600000 in
theorem l9From_any (v : Value) (h : Hp) (x : Int) (w : World) (hv : HR w v h) :
    Calls Try.prog 72 #[v, .int .i64 x] w fun e w' => e = .returned (.bool (frB h x)) ∧ Below w.heap.size w w' := by
  obtain ⟨v1, v2, v3, rfl, -, -, -⟩ := id hv
  have hb0 := bel_one w (.cells #[v1, v2, .int .i64 h.old, .int .i64 h.eden, .int .i64 h.surv, .bool h.flip, .int .i64 h.hash, v3] 26)
  have LS := fun W => l5Surv_any h.flip W
  have sb : survB h.flip ≤ 2900 := by unfold survB; split <;> omega
  have FB : Hid (frB h x = (decide (2000 ≤ x ∧ x < 2600) || decide ((survB h.flip : Int) ≤ x ∧ x < (survB h.flip : Int) + 300))) := (rfl : _ = _)
  generalize frB h x = r at *
  generalize survB h.flip = s at *
  clear hv
  by_cases h1 : 2000 ≤ x <;> by_cases h2 : x < 2600 <;> by_cases h3 : (s : Int) ≤ x <;> by_cases h4 : x < (s : Int) + 300
  all_goals first | (exfalso; omega) | (
    go_enter Try.func72, Try.ntmps72
    go_wp2_with (go_at_call 19; refine (LS _).mono ?_; rintro e wq ⟨rfl, hq⟩; obtain rfl := hq.symm)
    go_ret
    exact ⟨wret_bool (by rw [FB.out]; first | (simp [h1, h2, h3, h4]; done) | (simp [h1, h2, h3, h4]; omega)), hb0⟩)

end Go.Proofs.Ytphkmgalgngjiaa
