/- The walk of the law on See. -/
import Derived.Test.YtkiabmgkfneoeafSee
import Derived.Test.YtkiabmgkfneoeafSz
import Derived.Deep.RegionWith
namespace Go.Proofs.Ytkiabmgkfneoeaf
open Go.RowKit

set_option maxHeartbeats 1000000 in
theorem lawSee_any (v1 v2 : Value) (ss : List ByteArray) (ws : List Wr) (s : Int) (w : World) (hv1 : SR w v1 ss) (hv2 : WR w v2 ws) (h1 : ss.length ≤ 10000000000000) (h2 : ws.length ≤ 10000000000000) :
    Calls Try.prog 7 #[.agg #[v1, v2], .int .i64 s] w fun e w' => e = .returned (.bool true) ∧ Below w.heap.size w w' := by
  have hb0 := bel_one w (.cells #[v1, v2] 25)
  have k0 : (w.alloc (.cells #[v1, v2] 25)).cell? ⟨w.heap.size, 0, none⟩ = some v1 := cell_new w #[v1, v2] 25 _ rfl 0 _ rfl
  have k1 : (w.alloc (.cells #[v1, v2] 25)).cell? ⟨w.heap.size, 1, none⟩ = some v2 := cell_new w #[v1, v2] 25 _ rfl 1 _ rfl
  have a0 := hv1.later hb0
  have b0 := hv2.later hb0
  go_enter Try.func7, Try.ntmps7
  go_wp2_with (fail)
  refine (szDisk_any _ _ ss ws _ _ a0 b0 (by omega) (by omega)).mono ?_
  rintro e w1 ⟨⟨y, rfl⟩, hb1⟩
  have hbw1 : Below w.heap.size w w1 := hb0.trans (hb1.mono (by simp))
  have a1 := a0.later hb1
  have b1 := b0.later hb1
  have c0 := cell_later hb1 k0
  have c1 := cell_later hb1 k1
  clear k0 k1 a0 b0
  by_cases hy : y < 0
  · go_wp2
    go_ret
    exact ⟨rfl, hbw1⟩
  go_wp2_with (fail)
  refine (toDisk_any _ _ ss ws _ a1 b1 h1 h2).mono ?_
  rintro e w2 ⟨p1, p2, rfl, hP, hb2⟩
  have hbw2 := bel_then hbw1 hbw1.size hb2
  have a2 := a1.later hb2
  have b2 := b1.later hb2
  have d0 := cell_later hb2 c0
  have d1 := cell_later hb2 c1
  clear c0 c1 a1 b1 hbw1
  go_wp2_with (fail)
  refine (specSee_any _ _ ss ws s _ hP.2.2.1 hP.2.2.2.1 h1 h2).mono ?_
  rintro e w3 ⟨rfl, hb3⟩
  have hbw3 := bel_then hbw2 hbw2.size hb3
  have a3 := a2.later hb3
  have b3 := b2.later hb3
  have e0 := cell_later hb3 d0
  have e1 := cell_later hb3 d1
  clear d0 d1 a2 b2 hbw2 hP
  go_wp2_with (fail)
  refine (toDisk_any _ _ ss ws _ a3 b3 h1 h2).mono ?_
  rintro e w4 ⟨q1, q2, rfl, hQ, hb4⟩
  obtain ⟨qa, qn, qc, rfl⟩ := hQ.s1
  obtain ⟨ra, rn, rc, rfl⟩ := hQ.s2
  have hbw4 := bel_then hbw3 hbw3.size hb4
  have a4 := a3.later hb4
  have b4 := b3.later hb4
  have f0 := cell_later hb4 e0
  have f1 := cell_later hb4 e1
  have hz4 : w.heap.size < w4.heap.size := World.block_lt_of_cell? _ _ f0
  clear e0 e1 a3 b3 hbw3
  have hB5 := bel_one w4 (.cells #[.slice qa qn qc, .slice ra rn rc] 30)
  have hQ5 := hQ.later hB5
  have a5 := a4.later hB5
  have b5 := b4.later hB5
  have hbw5 := bel_then hbw4 hbw4.size hB5
  go_wp2_with (fail)
  refine (implSee_any _ _ ss ws s _ hQ5.2.2.1 hQ5.2.2.2.1 h1 h2).mono ?_
  rintro e w6 ⟨rfl, hb6⟩
  have hbw6 := bel_then hbw5 hbw5.size hb6
  have hQ6 := hQ5.later hb6
  have a6 := a5.later hb6
  have b6 := b5.later hb6
  have g0 := cell_later hb6 (cell_later hB5 f0)
  have g1 := cell_later hb6 (cell_later hB5 f1)
  have g2 : w6.cell? ⟨w4.heap.size, 0, none⟩ = some (.slice qa qn qc) := cell_later hb6 (cell_new w4 #[.slice qa qn qc, .slice ra rn rc] 30 _ rfl 0 _ rfl)
  have g3 : w6.cell? ⟨w4.heap.size, 1, none⟩ = some (.slice ra rn rc) := cell_later hb6 (cell_new w4 #[.slice qa qn qc, .slice ra rn rc] 30 _ rfl 1 _ rfl)
  clear f0 f1 a4 b4 a5 b5 hbw4 hbw5 hQ5 hQ
  generalize seeT ss ws s = ok at *
  go_wp2_with (fail)
  have a7 : SR w6.drew v1 ss := a6
  have b7 : WR w6.drew v2 ws := b6
  have hQ7 : ND w3.heap.size w6.drew (.slice qa qn qc) (.slice ra rn rc) ss ws := hQ6
  clear a6 b6 hQ6
  go_region_with (first | (go_at_call 11; refine (toDisk_any _ _ ss ws _ a7 b7 h1 h2).mono ?_; rintro e w7 ⟨u1, u2, rfl, hU, hb7⟩; have hQ8 := hQ7.later hb7; have m2 := cell_later hb7 g2; have m3 := cell_later hb7 g3) | (go_at_call 13; refine (eqDisk_any _ _ ss ss ws ws _ (hQ8.dr (by omega) (by omega)) (hU.dr (by omega) (by omega))).mono ?_; rintro e w8 ⟨rfl, hb8⟩))
  all_goals go_wp2
  all_goals
    have hb9 : Below w.heap.size w w8 := bel_then (bel_then hbw6.drew hbw6.size hb7) (Nat.le_trans hbw6.size hb7.size) hb8
    go_ret
    exact ⟨rfl, hb9⟩

end Go.Proofs.Ytkiabmgkfneoeaf
