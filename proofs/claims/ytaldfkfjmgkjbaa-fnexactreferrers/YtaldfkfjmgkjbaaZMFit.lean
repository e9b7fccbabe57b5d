/- The program's draft: its words that fit, its heap. -/
import Derived.Test.YtaldfkfjmgkjbaaZMDraft
import Derived.Test.YtaldfkfjmgkjbaaZMPlain
namespace Go.Proofs.Ytaldfkfjmgkjbaa
open Go.RowKit

set_option maxRecDepth 100000 in
set_option maxHeartbeats 800000 in
theorem draftHeap_any (a1 a2 a3 oa : Option Addr) (n1 n2 n3 on c1 c2 c3 oc : Nat) (i0 i1 i2 i3 : Int) (f : Bool) (w : World) :
    Calls Try.prog 45 #[.agg #[.slice a1 n1 c1, .slice oa on oc, .slice a2 n2 c2, .int .i64 i0, .int .i64 i1, .int .i64 i2, .bool f, .int .i64 i3, .slice a3 n3 c3]] w
      fun x w' => x = .returned (.agg #[.slice a1 n1 c1, .slice a2 n2 c2, .int .i64 i0, .int .i64 i1, .int .i64 i2, .bool f, .int .i64 i3, .slice a3 n3 c3]) ∧ Below w.heap.size w w' := by
  have hb0 : Below w.heap.size w ((w.alloc (.cells #[.slice a1 n1 c1, .slice oa on oc, .slice a2 n2 c2, .int .i64 i0, .int .i64 i1, .int .i64 i2, .bool f, .int .i64 i3, .slice a3 n3 c3] 59)).alloc (.cells #[.slice a1 n1 c1, .slice a2 n2 c2, .int .i64 i0, .int .i64 i1, .int .i64 i2, .bool f, .int .i64 i3, .slice a3 n3 c3] 26)) := bel_after (bel_one _ _) (bel_one _ _)
  go_enter Try.func45, Try.ntmps45
  go_wp2
  exact bodyPost_ret (v := .agg #[.slice a1 n1 c1, .slice a2 n2 c2, .int .i64 i0, .int .i64 i1, .int .i64 i2, .bool f, .int .i64 i3, .slice a3 n3 c3]) (by simp [results, Try.results45, go_sem]) rfl ⟨rfl, hb0⟩

end Go.Proofs.Ytaldfkfjmgkjbaa
