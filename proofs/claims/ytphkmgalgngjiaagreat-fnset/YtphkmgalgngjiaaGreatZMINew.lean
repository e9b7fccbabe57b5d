/- New of the program. -/
import Derived.Test.YtphkmgalgngjiaaGreatZMISet
import Derived.Test.YtphkmgalgngjiaaGreatZN10
namespace Go.Proofs.YtphkmgalgngjiaaGreat
open Go.RowKit

theorem new_no {h : Hp} {k n : Int} (q : newB h k n = false) : newC h k n = zeroH := by unfold newC; rw [q]; rfl
theorem new_w0 {h : Hp} {k n : Int} (q : newB h k n = false) : newW' h k n = 0 := by unfold newW'; rw [q]; rfl
theorem new_yes {h : Hp} {k n : Int} (q : newB h k n = true) : newC h k n = newHp h k n := by unfold newC; rw [q]; rfl
theorem new_w1 {h : Hp} {k n : Int} (q : newB h k n = true) : newW' h k n = 2 * h.eden + 1 := by unfold newW'; rw [q]; rfl
end Go.Proofs.YtphkmgalgngjiaaGreat
