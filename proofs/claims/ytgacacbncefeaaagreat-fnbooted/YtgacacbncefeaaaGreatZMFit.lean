/- The program's draft: its words that fit, its heap. -/
import Derived.Test.YtgacacbncefeaaaGreatZMDraft
import Derived.Test.YtgacacbncefeaaaGreatZMPlain
namespace Go.Proofs.YtgacacbncefeaaaGreat
open Go.RowKit

set_option maxRecDepth 100000 in
set_option maxHeartbeats 800000 in
theorem draftHeap_any (a1 a2 a3 oa : Option Addr) (n1 n2 n3 on c1 c2 c3 oc : Nat) (i0 i1 i2 i3 : Int) (f : Bool) (w : World) :
    Calls Tryz.prog 68 #[.agg #[.slice a1 n1 c1, .slice oa on oc, .slice a2 n2 c2, .int .i64 i0, .int .i64 i1, .int .i64 i2, .bool f, .int .i64 i3, .slice a3 n3 c3]] w
      fun x w' => x = .returned (.agg #[.slice a1 n1 c1, .slice a2 n2 c2, .int .i64 i0, .int .i64 i1, .int .i64 i2, .bool f, .int .i64 i3, .slice a3 n3 c3]) ∧ Below w.heap.size w w' := by
  have hb0 : Below w.heap.size w ((w.alloc (.cells #[.slice a1 n1 c1, .slice oa on oc, .slice a2 n2 c2, .int .i64 i0, .int .i64 i1, .int .i64 i2, .bool f, .int .i64 i3, .slice a3 n3 c3] 72)).alloc (.cells #[.slice a1 n1 c1, .slice a2 n2 c2, .int .i64 i0, .int .i64 i1, .int .i64 i2, .bool f, .int .i64 i3, .slice a3 n3 c3] 28)) := bel_after (bel_one _ _) (bel_one _ _)
  go_enter Tryz.func68, Tryz.ntmps68
  go_wp2
  exact bodyPost_ret (v := .agg #[.slice a1 n1 c1, .slice a2 n2 c2, .int .i64 i0, .int .i64 i1, .int .i64 i2, .bool f, .int .i64 i3, .slice a3 n3 c3]) (by simp [results, Tryz.results68, go_sem]) rfl ⟨rfl, hb0⟩

set_option maxHeartbeats 800000 in
theorem draftFits_any (a1 oa : Option Addr) (n1 c1 oc : Nat) (l : List Nat) (x : Int) (w : World) (ho : IR w (.slice oa l.length oc) (ints l)) (hs : l.Pairwise (· < ·)) (h1 : l.length ≤ 1000000000) :
    Calls Tryz.prog 70 #[.agg #[.slice a1 n1 c1, .slice oa l.length oc], .int .i64 x] w fun e w' => e = .returned (.bool (fitB l x)) ∧ Below w.heap.size w w' := by
  have hb0 := bel_one w (.cells #[.slice a1 n1 c1, .slice oa l.length oc] 70)
  have C := fitsHeap_any _ l x _ (ho.later hb0) hs h1
  go_enter Tryz.func70, Tryz.ntmps70
  go_wp2_with fail
  refine C.mono ?_
  rintro e w1 ⟨rfl, hb1⟩
  go_wp2
  go_ret
  exact ⟨rfl, bel_after hb0 hb1⟩


end Go.Proofs.YtgacacbncefeaaaGreat
