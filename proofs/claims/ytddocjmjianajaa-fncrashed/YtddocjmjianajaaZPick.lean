/- pick and big of the laws. -/
import Derived.Test.YtddocjmjianajaaZDraw2
namespace Go.Proofs.Ytddocjmjianajaa
open Go.RowKit


theorem big_any (cv : Value) (cs : List UInt8) (w : World) (hc : BR w cv cs) :
    Calls Try.prog 5 #[cv] w fun x w' => x = .returned (.bool (decide (4096 < cs.length))) ∧ w' = w := by
  obtain ⟨ao, cap, rfl, hcap, hr⟩ := hc
  have e : decide (4096 < cs.length) = decide ((4096 : Int) < (cs.length : Int)) := by rw [decide_eq_decide]; omega
  rw [e]
  go_enter Try.func5, Try.ntmps5
  go_wp2
  go_ret
  exact ⟨rfl, rfl⟩

end Go.Proofs.Ytddocjmjianajaa
