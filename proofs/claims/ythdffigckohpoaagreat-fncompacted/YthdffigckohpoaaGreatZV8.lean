
import Derived.Test.YthdffigckohpoaaGreatZMDraft
import Derived.Test.YthdffigckohpoaaGreatZV4
import Derived.Test.YthdffigckohpoaaGreatZV5
import Derived.Test.YthdffigckohpoaaGreatZV1
import Derived.Test.YthdffigckohpoaaGreatZHSpecW
/- The program's draft: its words that fit, its heap. -/
namespace Go.Proofs.YthdffigckohpoaaGreat
open Go.RowKit
set_option maxRecDepth 100000 in
set_option maxHeartbeats 800000 in
theorem draftHeap_any (a1 a2 a3 oa : Option Addr) (n1 n2 n3 on c1 c2 c3 oc : Nat) (i0 i1 i2 i3 : Int) (f : Bool) (w : World) :
  Calls Tryz.prog 62 #[.agg #[.slice a1 n1 c1, .slice oa on oc, .slice a2 n2 c2, .int .i64 i0, .int .i64 i1, .int .i64 i2, .bool f, .int .i64 i3, .slice a3 n3 c3]] w
   fun x w' => x = .returned (.agg #[.slice a1 n1 c1, .slice a2 n2 c2, .int .i64 i0, .int .i64 i1, .int .i64 i2, .bool f, .int .i64 i3, .slice a3 n3 c3]) /\ Below w.heap.size w w' := by
 have hb0 : Below w.heap.size w ((w.alloc (.cells #[.slice a1 n1 c1, .slice oa on oc, .slice a2 n2 c2, .int .i64 i0, .int .i64 i1, .int .i64 i2, .bool f, .int .i64 i3, .slice a3 n3 c3] 49)).alloc (.cells #[.slice a1 n1 c1, .slice a2 n2 c2, .int .i64 i0, .int .i64 i1, .int .i64 i2, .bool f, .int .i64 i3, .slice a3 n3 c3] 26)) := bel_after (bel_one _ _) (bel_one _ _)
 go_enter Tryz.func62, Tryz.ntmps62
 go_wp2
 exact bodyPost_ret (v := .agg #[.slice a1 n1 c1, .slice a2 n2 c2, .int .i64 i0, .int .i64 i1, .int .i64 i2, .bool f, .int .i64 i3, .slice a3 n3 c3]) (by simp [results, Tryz.results62, go_sem]) rfl ⟨rfl, hb0⟩
end Go.Proofs.YthdffigckohpoaaGreat
/- AddRoot of the program. -/
namespace Go.Proofs.YthdffigckohpoaaGreat
open Go.RowKit
theorem add_no {h : Hp} {x : Int} (k : addB h x = false) : addC h x = zeroH := by unfold addC; rw [k]; rfl
theorem add_yes {h : Hp} {x : Int} (k : addB h x = true) : addC h x = { h with roots := h.roots ++ [x] } := by unfold addC; rw [k]; rfl
theorem row_one (w : World) (x : Int) : RI (w.alloc (.cells #[.int .i64 x] 2)) w.heap.size [x] 1 := by
 refine ⟨fun _ => .int .i64 x, World.rowIs_alloc w #[.int .i64 x] 2 _ (fun i hi => ?_), by simp, fun i hi => ?_⟩
 ·have : i = 0 := by simp at hi; omega
  subst this
  rfl
 ·have : i = 0 := by simp at hi; omega
  subst this
  rfl
end Go.Proofs.YthdffigckohpoaaGreat
/- SetRoot of the program. -/
namespace Go.Proofs.YthdffigckohpoaaGreat
open Go.RowKit
theorem set_no {h : Hp} {i x : Int} (k : setB h i x = false) : setC h i x = zeroH := by unfold setC; rw [k]; rfl
theorem set_yes {h : Hp} {i x : Int} (k : setB h i x = true) : setC h i x = { h with roots := h.roots.set i.toNat x } := by unfold setC; rw [k]; rfl
end Go.Proofs.YthdffigckohpoaaGreat
/- copy into a row of the call's own, as an operation of a region. -/
namespace Go.Proofs.YthdffigckohpoaaGreat
open Go.RowKit
theorem four_ri (w : World) (a b c d : Int) : RI (w.alloc (.cells #[.int .i64 a, .int .i64 b, .int .i64 c, .int .i64 d] 2)) w.heap.size [a, b, c, d] 4 := by
 have q := row_any w #[.int .i64 a, .int .i64 b, .int .i64 c, .int .i64 d] 2
 refine ⟨_, q, by simp, fun i hi => ?_⟩
 simp only [List.length_cons, List.length_nil] at hi
 rcases i with _ | _ | _ | _ | i
 ·rfl
 ·rfl
 ·rfl
 ·rfl
 ·omega
end Go.Proofs.YthdffigckohpoaaGreat
/- An object's header is laid down by the program. -/
namespace Go.Proofs.YthdffigckohpoaaGreat
open Go.RowKit
end Go.Proofs.YthdffigckohpoaaGreat
/- New of the program. -/
namespace Go.Proofs.YthdffigckohpoaaGreat
open Go.RowKit
theorem new_no {h : Hp} {k n : Int} (q : newB h k n = false) : newC h k n = zeroH := by unfold newC; rw [q]; rfl
theorem new_w0 {h : Hp} {k n : Int} (q : newB h k n = false) : newW' h k n = 0 := by unfold newW'; rw [q]; rfl
theorem new_yes {h : Hp} {k n : Int} (q : newB h k n = true) : newC h k n = newHp h k n := by unfold newC; rw [q]; rfl
theorem new_w1 {h : Hp} {k n : Int} (q : newB h k n = true) : newW' h k n = 2 * h.eden + 1 := by unfold newW'; rw [q]; rfl
end Go.Proofs.YthdffigckohpoaaGreat
