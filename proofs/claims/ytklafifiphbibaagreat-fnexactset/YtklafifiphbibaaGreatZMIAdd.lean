/- AddRoot of the program. -/
import Derived.Test.YtklafifiphbibaaGreatZMFit
import Derived.Test.YtklafifiphbibaaGreatZMApp
namespace Go.Proofs.YtklafifiphbibaaGreat
open Go.RowKit

theorem add_no {h : Hp} {x : Int} (k : addB h x = false) : addC h x = zeroH := by unfold addC; rw [k]; rfl
theorem add_yes {h : Hp} {x : Int} (k : addB h x = true) : addC h x = { h with roots := h.roots ++ [x] } := by unfold addC; rw [k]; rfl
theorem zero_ret {h' : Hp} {b : Bool} {B : Nat} {w' : World} (k : b = false) (e : h' = zeroH) :
    Ending.returned (.tuple #[.agg #[.slice none 0 0, .slice none 0 0, .int .i64 0, .int .i64 0, .int .i64 0, .bool false, .int .i64 0, .slice none 0 0], .bool false]) = .returned (.tuple #[.agg #[.slice none 0 0, .slice none 0 0, .int .i64 0, .int .i64 0, .int .i64 0, .bool false, .int .i64 0, .slice none 0 0], .bool b]) ∧ HN B w' (.agg #[.slice none 0 0, .slice none 0 0, .int .i64 0, .int .i64 0, .int .i64 0, .bool false, .int .i64 0, .slice none 0 0]) h' := by
  subst k
  subst e
  exact ⟨rfl, zero_hn _ _⟩

theorem row_one (w : World) (x : Int) : RI (w.alloc (.cells #[.int .i64 x] 2)) w.heap.size [x] 1 := by
  refine ⟨fun _ => .int .i64 x, World.rowIs_alloc w #[.int .i64 x] 2 _ (fun i hi => ?_), by simp, fun i hi => ?_⟩
  · have : i = 0 := by simp at hi; omega
    subst this
    rfl
  · have : i = 0 := by simp at hi; omega
    subst this
    rfl


end Go.Proofs.YtklafifiphbibaaGreat
