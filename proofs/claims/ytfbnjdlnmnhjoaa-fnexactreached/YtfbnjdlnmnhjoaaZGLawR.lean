/- The walk of the law on Reached. -/
import Derived.Test.YtfbnjdlnmnhjoaaZHLaws
import Derived.Test.YtfbnjdlnmnhjoaaZGShC
namespace Go.Proofs.Ytfbnjdlnmnhjoaa
open Go.RowKit

set_option maxRecDepth 100000 in
set_option maxHeartbeats 1600000 in
theorem lawReached_any (v1 v2 v3 : Value) (h : Hp) (w : World) (i1 : IR w v1 h.words) (i2 : IR w v2 h.roots) (i3 : IR w v3 h.kept) (h1 : h.words.length ≤ 1000000000000000) (h2 : h.roots.length ≤ 1000000000000000) (h3 : h.kept.length ≤ 1000000000000000) :
    Calls Try.prog 3 #[.agg #[v1, v2, .int .i64 h.old, .int .i64 h.eden, .int .i64 h.surv, .bool h.flip, .int .i64 h.hash, v3]] w fun e w' => e = .returned (.bool true) ∧ Below w.heap.size w w' := by
  have hb0 := bel_one w (.cells #[v1, v2, .int .i64 h.old, .int .i64 h.eden, .int .i64 h.surv, .bool h.flip, .int .i64 h.hash, v3] 24)
  have X0 := Bx.new w v1 v2 v3 h 24
  have SZ := szHeap_any v1 v2 v3 h _ (i1.later hb0) (i2.later hb0) (i3.later hb0) h1 h2 h3
  go_enter Try.func3, Try.ntmps3
  go_wp2_with fail
  refine SZ.mono ?_
  rintro e w1 ⟨⟨y, rfl, hy⟩, hb1⟩
  have hbw1 := bel_after hb0 hb1
  have X1 := X0.later hb1
  obtain ⟨a0, a1, a2, a3, a4, a5, a6, a7⟩ := id X1
  clear SZ X0
  by_cases hn : y < 0
  · go_wp2
    go_ret
    exact ⟨rfl, hbw1⟩
  obtain ⟨l1, l2, l3⟩ := hy.out (by omega)
  have TH := fun W hb => toHeap_any v1 v2 v3 h W (i1.later hb) (i2.later hb) (i3.later hb) (by omega) (by omega) (by omega)
  have SP := fun v W hv => specReached_c v h W hv (by omega) (by omega)
  have IM := fun v W hv => implReached_c v h W hv (by omega) (by omega)
  have EQ := fun v u W hv hu => eqHeap_any v u h W hv hu (by omega) (by omega) (by omega)
  generalize reC h = ok at *
  clear i1 i2 i3 h1 h2 h3 l1 l2 l3 hy
  go_wp2_with fail
  refine (TH _ hbw1).mono ?_
  rintro e w2 ⟨⟨p, rfl, hp⟩, hb2⟩
  have hbw2 := bel_after hbw1 hb2
  have X2 := X1.later hb2
  go_wp2_with fail
  refine (SP _ _ hp.hr).mono ?_
  rintro e w3 ⟨rfl, hb3⟩
  have hbw3 := bel_after hbw2 hb3
  have X3 := X2.later hb3
  clear a0 a1 a2 a3 a4 a5 a6 a7
  obtain ⟨a0, a1, a2, a3, a4, a5, a6, a7⟩ := id X3
  clear X1 X2 hp
  go_wp2_with fail
  refine (TH _ hbw3).mono ?_
  rintro e w4 ⟨⟨q, rfl, hq⟩, hb4⟩
  have hbw4 := bel_after hbw3 hb4
  have X4 := X3.later hb4
  obtain ⟨q1, q2, q3, rfl, qa, qb, qc⟩ := hq.ex
  obtain ⟨qo1, qc1, rfl, -⟩ := IRs qb.1
  obtain ⟨qo2, qc2, rfl, -⟩ := IRs qb.2.1
  obtain ⟨qo3, qc3, rfl, -⟩ := IRs qb.2.2
  have al := bel_one w4 (.cells #[(.slice qo1 h.words.length qc1), (.slice qo2 h.roots.length qc2), .int .i64 h.old, .int .i64 h.eden, .int .i64 h.surv, .bool h.flip, .int .i64 h.hash, (.slice qo3 h.kept.length qc3)] 27)
  have Y5 := Bx.new w4 (.slice qo1 h.words.length qc1) (.slice qo2 h.roots.length qc2) (.slice qo3 h.kept.length qc3) h 27
  have hq5 := hq.hr.later al
  have hbw5 := bel_after hbw4 al
  have X5 := X4.later al
  clear X3 X4 hq qa qb qc a0 a1 a2 a3 a4 a5 a6 a7
  go_wp2_with fail
  refine (IM _ _ hq5).mono ?_
  rintro e w6 ⟨rfl, hb6⟩
  have hbw6 := bel_after hbw5 hb6
  obtain ⟨a0, a1, a2, a3, a4, a5, a6, a7⟩ := X5.later hb6
  obtain ⟨b0, b1, b2, b3, b4, b5, b6, b7⟩ := Y5.later hb6
  have hq6 := hq5.later hb6
  have ltN : w.heap.size < w6.heap.size := World.block_lt_of_cell? _ _ a0
  clear X5 Y5 hq5 SP IM
  go_wp2_with fail
  go_region_held3 (fun w' => Below w6.heap.size w6 w' ∧ (w'.cell? ⟨w.heap.size, 0, none⟩ = some v1 ∧ w'.cell? ⟨w.heap.size, 1, none⟩ = some v2 ∧ w'.cell? ⟨w.heap.size, 2, none⟩ = some (.int .i64 h.old) ∧ w'.cell? ⟨w.heap.size, 3, none⟩ = some (.int .i64 h.eden) ∧ w'.cell? ⟨w.heap.size, 4, none⟩ = some (.int .i64 h.surv) ∧ w'.cell? ⟨w.heap.size, 5, none⟩ = some (.bool h.flip) ∧ w'.cell? ⟨w.heap.size, 6, none⟩ = some (.int .i64 h.hash) ∧ w'.cell? ⟨w.heap.size, 7, none⟩ = some v3) ∧ (w'.cell? ⟨w4.heap.size, 0, none⟩ = some (.slice qo1 h.words.length qc1) ∧ w'.cell? ⟨w4.heap.size, 1, none⟩ = some (.slice qo2 h.roots.length qc2) ∧ w'.cell? ⟨w4.heap.size, 2, none⟩ = some (.int .i64 h.old) ∧ w'.cell? ⟨w4.heap.size, 3, none⟩ = some (.int .i64 h.eden) ∧ w'.cell? ⟨w4.heap.size, 4, none⟩ = some (.int .i64 h.surv) ∧ w'.cell? ⟨w4.heap.size, 5, none⟩ = some (.bool h.flip) ∧ w'.cell? ⟨w4.heap.size, 6, none⟩ = some (.int .i64 h.hash) ∧ w'.cell? ⟨w4.heap.size, 7, none⟩ = some (.slice qo3 h.kept.length qc3)))
    (first | assumption | exact ⟨(Below.refl _ _).drew, ⟨a0, a1, a2, a3, a4, a5, a6, a7⟩, b0, b1, b2, b3, b4, b5, b6, b7⟩ | exact keep16 (by assumption) (by assumption))
    (first
      | (go_at_call 9; refine (TH _ (bel_after hbw6 (And.left (by assumption)))).mono ?_; rintro x w7 ⟨⟨u, rfl, hu⟩, hb7⟩)
      | (go_at_call 11; refine (EQ _ _ _ (hq6.later (And.left (by assumption))) hu.hr).mono ?_; rintro x w8 ⟨rfl, hb8⟩))
  all_goals go_wp2
  all_goals go_ret
  all_goals exact ⟨rfl, bel_after hbw6 (bel_after (bel_after (Below.refl _ _).drew hb7) hb8)⟩


end Go.Proofs.Ytfbnjdlnmnhjoaa
