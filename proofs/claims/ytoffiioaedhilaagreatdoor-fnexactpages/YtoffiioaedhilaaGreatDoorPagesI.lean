/- Pages of the program. -/
import Derived.Test.YtoffiioaedhilaaGreatDoorPagesS
namespace Go.Proofs.YtoffiioaedhilaaGreatDoor
open Go.RowKit

set_option maxRecDepth 100000 in
set_option maxHeartbeats 1000000 in
theorem implPages_any (v1 v2 : Value) (ss : List ByteArray) (ws : List Disk.Wr) (a0 a1 a2 a3 : Addr) (w : World) (hv1 : Disk.SR w v1 ss) (hv2 : Disk.WR w v2 ws) (h1 : ss.length ≤ 10000000000000) (h2 : ws.length ≤ 10000000000000) (hcp : ∃ ao, v1 = .slice ao ss.length ss.length) (hC : Ctx a0 a1 a2 a3 w) :
    Calls Tryz.prog 18 #[.agg #[v1, v2]] w fun x w' => (∃ v, x = .returned (.tuple #[v, .int .i64 (newestR ss ws).1]) ∧ w'.ownsRow w.heap.size 9 1 v (pagesR ss ws).length (tcells (pagesR ss ws))) ∧ Below w.heap.size w w' := by
  have hb0 := bel_one w (.cells #[v1, v2] 32)
  have hv1' := hv1.later hb0
  have N := newestSuper_any v1 v2 ss ws a0 a1 a2 a3 _ hv1' (hv2.later hb0) h1 h2 hcp (ss_of hv1') (hC.later hb0)
  rw [pagesR_length]
  unfold pagesR
  generalize newestR ss ws = r at *
  obtain ⟨ne, nl⟩ := r
  simp only at N
  go_enter Tryz.func18, Tryz.ntmps18
  go_wp2_with fail
  refine N.mono ?_
  rintro x w1 ⟨⟨v, bv, rfl, o1, o2⟩, hb1⟩
  clear N
  have hbw := bel_after hb0 hb1
  obtain ⟨so, sc, rfl, _⟩ := own_cell o1
  obtain ⟨bo, bc, rfl, _⟩ := own_cell o2
  have o3 := own_mono (B' := w.heap.size) (own_later o2 (bel_one w1 (.cells #[.int .i64 ne, .slice so nl.length sc, .slice bo nl.length bc] 60))) (by simp)
  have hbw2 := bel_after hbw (bel_one w1 (.cells #[.int .i64 ne, .slice so nl.length sc, .slice bo nl.length bc] 60))
  clear o1 o2 hb1 hb0
  go_wp2
  go_region
  all_goals go_wp2
  all_goals exact bodyPost_ret (v := .tuple #[.slice bo nl.length bc, .int .i64 ne]) (by simp [results, Tryz.results18, go_sem]) rfl ⟨⟨_, rfl, o3⟩, by first | exact hbw2.drew | exact hbw2.drew.drew⟩

end Go.Proofs.YtoffiioaedhilaaGreatDoor
