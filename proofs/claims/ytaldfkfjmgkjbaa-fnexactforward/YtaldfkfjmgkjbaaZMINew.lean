/- New of the program. -/
import Derived.Test.YtaldfkfjmgkjbaaZMISet
import Derived.Test.YtaldfkfjmgkjbaaZMLay
namespace Go.Proofs.Ytaldfkfjmgkjbaa
open Go.RowKit

theorem new_no {h : Hp} {k n : Int} (q : newB h k n = false) : newC h k n = zeroH := by unfold newC; rw [q]; rfl
theorem new_w0 {h : Hp} {k n : Int} (q : newB h k n = false) : newW' h k n = 0 := by unfold newW'; rw [q]; rfl
theorem new_yes {h : Hp} {k n : Int} (q : newB h k n = true) : newC h k n = newHp h k n := by unfold newC; rw [q]; rfl
theorem new_w1 {h : Hp} {k n : Int} (q : newB h k n = true) : newW' h k n = 2 * h.eden + 1 := by unfold newW'; rw [q]; rfl
theorem zero_ret3 {h' : Hp} {b : Bool} {B : Nat} {w' : World} {z : Int} (k : b = false) (e : h' = zeroH) (e' : z = 0) :
    Ending.returned (.tuple #[.agg #[.slice none 0 0, .slice none 0 0, .int .i64 0, .int .i64 0, .int .i64 0, .bool false, .int .i64 0, .slice none 0 0], .int .i64 0, .bool false]) = .returned (.tuple #[.agg #[.slice none 0 0, .slice none 0 0, .int .i64 0, .int .i64 0, .int .i64 0, .bool false, .int .i64 0, .slice none 0 0], .int .i64 z, .bool b]) ∧ HN B w' (.agg #[.slice none 0 0, .slice none 0 0, .int .i64 0, .int .i64 0, .int .i64 0, .bool false, .int .i64 0, .slice none 0 0]) h' := by
  subst k
  subst e
  subst e'
  exact ⟨rfl, zero_hn _ _⟩


end Go.Proofs.Ytaldfkfjmgkjbaa
