/- Newest of the program. -/
import Derived.Test.YtfcenohgfhefiaaGreatDoorZNewI
namespace Go.Proofs.YtfcenohgfhefiaaGreatDoor
open Go.RowKit

theorem okD_parts {ss : List ByteArray} {ws : List Disk.Wr} (h : Disk.okD ss ws = true) : ss.length = 64 ∧ ∀ k, k < 64 → (textAt ss k).size ≤ 256 := by
  have hl : ss.length = 64 := Classical.byContradiction fun hc => by rw [Disk.okD_len hc] at h; cases h
  refine ⟨hl, fun k hk => Classical.byContradiction fun hc => ?_⟩
  rw [Disk.okD_text (k := k) (by omega) hc] at h
  cases h
theorem ss_of {ss : List ByteArray} {ws : List Disk.Wr} {w : World} {v : Value} (h : Disk.SR w v ss) (ho : Disk.okD ss ws = true) : Ss w v ss := ⟨h, (okD_parts ho).1, (okD_parts ho).2⟩

set_option maxRecDepth 100000 in
set_option maxHeartbeats 1000000 in
theorem implNewest_any (v1 v2 : Value) (ss : List ByteArray) (ws : List Disk.Wr) (a0 a1 a2 a3 : Addr) (w : World) (hv1 : Disk.SR w v1 ss) (hv2 : Disk.WR w v2 ws) (h1 : ss.length ≤ 10000000000000) (h2 : ws.length ≤ 10000000000000) (hcp : ∃ ao, v1 = .slice ao ss.length ss.length) (hC : Ctx a0 a1 a2 a3 w) :
    Calls Tryz.prog 17 #[.agg #[v1, v2]] w fun x w' => (∃ v, x = .returned (.tuple #[.int .i64 (newestR ss ws).1, v]) ∧ w'.ownsRow w.heap.size 2 1 v (newestR ss ws).2.length (icells (newestR ss ws).2)) ∧ Below w.heap.size w w' := by
  have hb0 := bel_one w (.cells #[v1, v2] 27)
  have hv1' := hv1.later hb0
  have N := newestSuper_any v1 v2 ss ws a0 a1 a2 a3 _ hv1' (hv2.later hb0) h1 h2 hcp (ss_of hv1') (hC.later hb0)
  generalize newestR ss ws = r at *
  obtain ⟨ne, nl⟩ := r
  simp only at N
  go_enter Tryz.func17, Tryz.ntmps17
  go_wp2_with fail
  refine N.mono ?_
  rintro x w1 ⟨⟨v, bv, rfl, o1, o2⟩, hb1⟩
  clear N
  have hbw := bel_after hb0 hb1
  obtain ⟨so, sc, rfl, _⟩ := own_cell o1
  obtain ⟨bo, bc, rfl, _⟩ := own_cell o2
  have o3 := own_mono (B' := w.heap.size) (own_later o1 (bel_one w1 (.cells #[.int .i64 ne, .slice so nl.length sc, .slice bo nl.length bc] 77))) (by simp)
  have hbw2 := bel_after hbw (bel_one w1 (.cells #[.int .i64 ne, .slice so nl.length sc, .slice bo nl.length bc] 77))
  clear o1 o2 hb1 hb0
  go_wp2
  go_region
  all_goals go_wp2
  all_goals exact bodyPost_ret (v := .tuple #[.int .i64 ne, .slice so nl.length sc]) (by simp [results, Tryz.results17, go_sem]) rfl ⟨⟨_, rfl, o3⟩, by first | exact hbw2.drew | exact hbw2.drew.drew⟩

end Go.Proofs.YtfcenohgfhefiaaGreatDoor
