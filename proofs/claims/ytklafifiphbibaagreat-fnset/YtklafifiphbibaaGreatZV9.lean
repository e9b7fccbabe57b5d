
import Derived.Test.YtklafifiphbibaaGreatZMFit
import Derived.Test.YtklafifiphbibaaGreatZV7
import Derived.Test.YtklafifiphbibaaGreatZV2
import Derived.Test.YtklafifiphbibaaGreatZHSpecW
/- AddRoot of the program. -/
namespace Go.Proofs.YtklafifiphbibaaGreat
open Go.RowKit

theorem add_no {h : Hp} {x : Int} (k : addB h x = false) : addC h x = zeroH := by unfold addC; rw [k]; rfl
theorem add_yes {h : Hp} {x : Int} (k : addB h x = true) : addC h x = { h with roots := h.roots ++ [x] } := by unfold addC; rw [k]; rfl
theorem zero_ret {h' : Hp} {b : Bool} {B : Nat} {w' : World} (k : b = false) (e : h' = zeroH) :
    Ending.returned (.tuple #[.agg #[.slice none 0 0, .slice none 0 0, .int .i64 0, .int .i64 0, .int .i64 0, .bool false, .int .i64 0, .slice none 0 0], .bool false]) = .returned (.tuple #[.agg #[.slice none 0 0, .slice none 0 0, .int .i64 0, .int .i64 0, .int .i64 0, .bool false, .int .i64 0, .slice none 0 0], .bool b]) ∧ HN B w' (.agg #[.slice none 0 0, .slice none 0 0, .int .i64 0, .int .i64 0, .int .i64 0, .bool false, .int .i64 0, .slice none 0 0]) h' := by
  subst k
  subst e
  exact ⟨rfl, zero_hn _ _⟩

theorem row_one (w : World) (x : Int) : RI (w.alloc (.cells #[.int .i64 x] 2)) w.heap.size [x] 1 := by
  refine ⟨fun _ => .int .i64 x, World.rowIs_alloc w #[.int .i64 x] 2 _ (fun i hi => ?_), by simp, fun i hi => ?_⟩
  · have : i = 0 := by simp at hi; omega
    subst this
    rfl
  · have : i = 0 := by simp at hi; omega
    subst this
    rfl


end Go.Proofs.YtklafifiphbibaaGreat

/- SetRoot of the program. -/
namespace Go.Proofs.YtklafifiphbibaaGreat
open Go.RowKit

theorem set_no {h : Hp} {i x : Int} (k : setB h i x = false) : setC h i x = zeroH := by unfold setC; rw [k]; rfl
theorem set_yes {h : Hp} {i x : Int} (k : setB h i x = true) : setC h i x = { h with roots := h.roots.set i.toNat x } := by unfold setC; rw [k]; rfl


end Go.Proofs.YtklafifiphbibaaGreat

/- copy into a row of the call's own, as an operation of a region. -/
namespace Go.Proofs.YtklafifiphbibaaGreat
open Go.RowKit

theorem four_ri (w : World) (a b c d : Int) : RI (w.alloc (.cells #[.int .i64 a, .int .i64 b, .int .i64 c, .int .i64 d] 2)) w.heap.size [a, b, c, d] 4 := by
  have q := row_any w #[.int .i64 a, .int .i64 b, .int .i64 c, .int .i64 d] 2
  refine ⟨_, q, by simp, fun i hi => ?_⟩
  simp only [List.length_cons, List.length_nil] at hi
  rcases i with _ | _ | _ | _ | i
  · rfl
  · rfl
  · rfl
  · rfl
  · omega
end Go.Proofs.YtklafifiphbibaaGreat

/- An object's header is laid down by the program. -/
namespace Go.Proofs.YtklafifiphbibaaGreat
open Go.RowKit


end Go.Proofs.YtklafifiphbibaaGreat

/- New of the program. -/
namespace Go.Proofs.YtklafifiphbibaaGreat
open Go.RowKit

theorem new_no {h : Hp} {k n : Int} (q : newB h k n = false) : newC h k n = zeroH := by unfold newC; rw [q]; rfl
theorem new_w0 {h : Hp} {k n : Int} (q : newB h k n = false) : newW' h k n = 0 := by unfold newW'; rw [q]; rfl
theorem new_yes {h : Hp} {k n : Int} (q : newB h k n = true) : newC h k n = newHp h k n := by unfold newC; rw [q]; rfl
theorem new_w1 {h : Hp} {k n : Int} (q : newB h k n = true) : newW' h k n = 2 * h.eden + 1 := by unfold newW'; rw [q]; rfl
end Go.Proofs.YtklafifiphbibaaGreat
