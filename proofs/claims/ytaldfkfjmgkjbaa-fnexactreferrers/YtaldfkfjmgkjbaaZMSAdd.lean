/- l7Word and AddRoot of the model. -/
import Derived.Test.YtaldfkfjmgkjbaaZMCopy5
import Derived.Test.YtaldfkfjmgkjbaaZMINew
import Derived.Test.YtaldfkfjmgkjbaaZHM
namespace Go.Proofs.Ytaldfkfjmgkjbaa
open Go.RowKit

theorem fit_even {l : List Nat} {x : Int} (h : x % 2 = 0) : fitB l x = wokB x := by
  have := wok_kind_even h
  unfold fitB
  rw [show decide (kindW x = 2) = false from this.2, show decide (kindW x = 1) = wokB x from this.1]
  simp
theorem fit_odd {l : List Nat} {x : Int} (h : ¬ x % 2 = 0) : fitB l x = (wokB x && (ints l).contains (x / 2)) := by
  have := wok_kind_odd h
  unfold fitB
  rw [show decide (kindW x = 1) = false from this.2, show decide (kindW x = 2) = wokB x from this.1]
  simp
theorem tdiv_pos {x : Int} (h : 1 ≤ x) : x.tdiv 2 = x / 2 := Int.tdiv_eq_ediv_of_nonneg (by omega)




end Go.Proofs.Ytaldfkfjmgkjbaa
