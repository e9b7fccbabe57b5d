
import Derived.Test.YtphkmgalgngjiaaGreatZMDraft
import Derived.Test.YtphkmgalgngjiaaGreatZP5
import Derived.Test.YtphkmgalgngjiaaGreatZP6
/- The program's draft: its words that fit, its heap. -/
namespace Go.Proofs.YtphkmgalgngjiaaGreat
open Go.RowKit

set_option maxRecDepth 100000 in
set_option maxHeartbeats 800000 in
theorem draftHeap_any (a1 a2 a3 oa : Option Addr) (n1 n2 n3 on c1 c2 c3 oc : Nat) (i0 i1 i2 i3 : Int) (f : Bool) (w : World) :
    Calls Tryz.prog 41 #[.agg #[.slice a1 n1 c1, .slice oa on oc, .slice a2 n2 c2, .int .i64 i0, .int .i64 i1, .int .i64 i2, .bool f, .int .i64 i3, .slice a3 n3 c3]] w
      fun x w' => x = .returned (.agg #[.slice a1 n1 c1, .slice a2 n2 c2, .int .i64 i0, .int .i64 i1, .int .i64 i2, .bool f, .int .i64 i3, .slice a3 n3 c3]) ∧ Below w.heap.size w w' := by
  have hb0 : Below w.heap.size w ((w.alloc (.cells #[.slice a1 n1 c1, .slice oa on oc, .slice a2 n2 c2, .int .i64 i0, .int .i64 i1, .int .i64 i2, .bool f, .int .i64 i3, .slice a3 n3 c3] 63)).alloc (.cells #[.slice a1 n1 c1, .slice a2 n2 c2, .int .i64 i0, .int .i64 i1, .int .i64 i2, .bool f, .int .i64 i3, .slice a3 n3 c3] 26)) := bel_after (bel_one _ _) (bel_one _ _)
  go_enter Tryz.func41, Tryz.ntmps41
  go_wp2
  exact bodyPost_ret (v := .agg #[.slice a1 n1 c1, .slice a2 n2 c2, .int .i64 i0, .int .i64 i1, .int .i64 i2, .bool f, .int .i64 i3, .slice a3 n3 c3]) (by simp [results, Tryz.results41, go_sem]) rfl ⟨rfl, hb0⟩

end Go.Proofs.YtphkmgalgngjiaaGreat

/- AddRoot of the program. -/
namespace Go.Proofs.YtphkmgalgngjiaaGreat
open Go.RowKit

theorem add_no {h : Hp} {x : Int} (k : addB h x = false) : addC h x = zeroH := by unfold addC; rw [k]; rfl
theorem add_yes {h : Hp} {x : Int} (k : addB h x = true) : addC h x = { h with roots := h.roots ++ [x] } := by unfold addC; rw [k]; rfl
theorem row_one (w : World) (x : Int) : RI (w.alloc (.cells #[.int .i64 x] 2)) w.heap.size [x] 1 := by
  refine ⟨fun _ => .int .i64 x, World.rowIs_alloc w #[.int .i64 x] 2 _ (fun i hi => ?_), by simp, fun i hi => ?_⟩
  · have : i = 0 := by simp at hi; omega
    subst this
    rfl
  · have : i = 0 := by simp at hi; omega
    subst this
    rfl

end Go.Proofs.YtphkmgalgngjiaaGreat
