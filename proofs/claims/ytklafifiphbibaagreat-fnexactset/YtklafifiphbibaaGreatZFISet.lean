/- Set of the program, upon (*draft).write. -/
import Derived.Test.YtklafifiphbibaaGreatZU3
namespace Go.Proofs.YtklafifiphbibaaGreat
open Go.RowKit

set_option maxRecDepth 100000 in
set_option maxHeartbeats 6400000 in
theorem implSet_c (v : Value) (h : Hp) (x i y : Int) (w : World) (hv : HR w v h) (hwo : h.words.length ≤ 1000000000000) (hro : h.roots.length ≤ 1000000000000) (hke : h.kept.length ≤ 1000000000000) :
    Calls Tryz.prog 7 #[v, .int .i64 x, .int .i64 i, .int .i64 y] w fun e w' => (∃ u, e = .returned (.tuple #[u, .bool (putB h x i y)]) ∧ HN w.heap.size w' u (putC h x i y)) ∧ Below w.heap.size w w' := by
  obtain ⟨v1, v2, v3, rfl, i1, i2, i3⟩ := id hv
  obtain ⟨a1, c1, rfl, -⟩ := IRs i1
  obtain ⟨a2, c2, rfl, -⟩ := IRs i2
  obtain ⟨a3, c3, rfl, -⟩ := IRs i3
  have hb0 : Below w.heap.size w ((w.alloc (.cells #[.slice a1 h.words.length c1, .slice a2 h.roots.length c2, .int .i64 h.old, .int .i64 h.eden, .int .i64 h.surv, .bool h.flip, .int .i64 h.hash, .slice a3 h.kept.length c3] 26)).alloc (.cells #[.slice none 0 0, .slice none 0 0, .int .i64 0, .int .i64 0, .int .i64 0, .bool false, .int .i64 0, .slice none 0 0] 26)) := bel_after (bel_one _ _) (bel_one _ _)
  obtain ⟨f, R0⟩ : ∃ f, ((w.alloc (.cells #[.slice a1 h.words.length c1, .slice a2 h.roots.length c2, .int .i64 h.old, .int .i64 h.eden, .int .i64 h.surv, .bool h.flip, .int .i64 h.hash, .slice a3 h.kept.length c3] 26)).alloc (.cells #[.slice none 0 0, .slice none 0 0, .int .i64 0, .int .i64 0, .int .i64 0, .bool false, .int .i64 0, .slice none 0 0] 26)).rowIs (w.heap.size + 1) 26 8 f := by
    have q := row_any (w.alloc (.cells #[.slice a1 h.words.length c1, .slice a2 h.roots.length c2, .int .i64 h.old, .int .i64 h.eden, .int .i64 h.surv, .bool h.flip, .int .i64 h.hash, .slice a3 h.kept.length c3] 26)) #[.slice none 0 0, .slice none 0 0, .int .i64 0, .int .i64 0, .int .i64 0, .bool false, .int .i64 0, .slice none 0 0] 26
    rw [World.size_alloc] at q
    exact ⟨_, q⟩
  have C := draftOf_c2 _ h _ (hv.later hb0) hwo hro hke
  clear i1 i2 i3
  go_enter Tryz.func7, Tryz.ntmps7
  go_wp2_with fail
  refine C.mono ?_
  rintro e w1 ⟨dr, hb1⟩
  have hbw1 := bel_after hb0 hb1
  have R1 := R0.of_block (hb1.block _ R0.lt)
  clear C R0
  rcases dr with ⟨hk, g1, g2, g3, oa, oc, rfl, ⟨q1, q2, q3⟩, ⟨l0, l1, l2⟩, io, farO, -⟩ | ⟨hk, rfl⟩
  case inr =>
    have AB : putB h x i y = false := by unfold putB; rw [hk]; rfl
    have al := bel_one w1 (.cells #[.slice none 0 0, .slice none 0 0, .slice none 0 0, .int .i64 0, .int .i64 0, .int .i64 0, .bool false, .int .i64 0, .slice none 0 0] 49)
    have hbA := bel_after hbw1 al
    have R2 := R1.of_block (al.block _ R1.lt)
    clear R1
    have r0 := R2.cell (i := 0) (by omega)
    have r1 := R2.cell (i := 1) (by omega)
    have r2 := R2.cell (i := 2) (by omega)
    have r3 := R2.cell (i := 3) (by omega)
    have r4 := R2.cell (i := 4) (by omega)
    have r5 := R2.cell (i := 5) (by omega)
    have r6 := R2.cell (i := 6) (by omega)
    have r7 := R2.cell (i := 7) (by omega)
    have fR := fun i => R2.frozen i
    have ltR := R2.lt
    have B9 : Below w.heap.size w (((((((((w1.alloc (.cells #[.slice none 0 0, .slice none 0 0, .slice none 0 0, .int .i64 0, .int .i64 0, .int .i64 0, .bool false, .int .i64 0, .slice none 0 0] 49)).setCell ⟨w.heap.size + 1, 0, none⟩ (.slice none 0 0)).setCell ⟨w.heap.size + 1, 1, none⟩ (.slice none 0 0)).setCell ⟨w.heap.size + 1, 2, none⟩ (.int .i64 0)).setCell ⟨w.heap.size + 1, 3, none⟩ (.int .i64 0)).setCell ⟨w.heap.size + 1, 4, none⟩ (.int .i64 0)).setCell ⟨w.heap.size + 1, 5, none⟩ (.bool false)).setCell ⟨w.heap.size + 1, 6, none⟩ (.int .i64 0)).setCell ⟨w.heap.size + 1, 7, none⟩ (.slice none 0 0)) := by
      repeat (refine Below.setCell ?_ (p := ⟨w.heap.size + 1, _, none⟩) (Nat.le_succ _) _)
      exact hbA
    go_wp2
    exact bodyPost_ret (v := .tuple #[.agg #[.slice none 0 0, .slice none 0 0, .int .i64 0, .int .i64 0, .int .i64 0, .bool false, .int .i64 0, .slice none 0 0], .bool false]) (by simp [results, Tryz.results7, go_sem, r0, r1, r2, r3, r4, r5, r6, r7]) rfl ⟨⟨_, zero_ret AB (put_no AB)⟩, B9⟩
  have al := bel_one w1 (.cells #[.slice (some ⟨g1, 0, none⟩) h.words.length h.words.length, .slice oa (obC h).length oc, .slice (some ⟨g2, 0, none⟩) h.roots.length h.roots.length, .int .i64 h.old, .int .i64 h.eden, .int .i64 h.surv, .bool h.flip, .int .i64 h.hash, .slice (some ⟨g3, 0, none⟩) h.kept.length h.kept.length] 49)
  have R2 := R1.of_block (al.block _ R1.lt)
  obtain ⟨fd, D2⟩ : ∃ fd, (w1.alloc (.cells #[.slice (some ⟨g1, 0, none⟩) h.words.length h.words.length, .slice oa (obC h).length oc, .slice (some ⟨g2, 0, none⟩) h.roots.length h.roots.length, .int .i64 h.old, .int .i64 h.eden, .int .i64 h.surv, .bool h.flip, .int .i64 h.hash, .slice (some ⟨g3, 0, none⟩) h.kept.length h.kept.length] 49)).rowIs w1.heap.size 49 9 fd := ⟨_, row_any w1 #[.slice (some ⟨g1, 0, none⟩) h.words.length h.words.length, .slice oa (obC h).length oc, .slice (some ⟨g2, 0, none⟩) h.roots.length h.roots.length, .int .i64 h.old, .int .i64 h.eden, .int .i64 h.surv, .bool h.flip, .int .i64 h.hash, .slice (some ⟨g3, 0, none⟩) h.kept.length h.kept.length] 49⟩
  have l0' : w.heap.size + 2 ≤ g1 := by simpa using l0
  have ltg1 := q1.lt
  have ltg2 := q2.lt
  have ltg3 := q3.lt
  have hbA := bel_after hbw1 al
  have D3 : DX (w1.alloc (.cells #[.slice (some ⟨g1, 0, none⟩) h.words.length h.words.length, .slice oa (obC h).length oc, .slice (some ⟨g2, 0, none⟩) h.roots.length h.roots.length, .int .i64 h.old, .int .i64 h.eden, .int .i64 h.surv, .bool h.flip, .int .i64 h.hash, .slice (some ⟨g3, 0, none⟩) h.kept.length h.kept.length] 49)) w1.heap.size (.slice (some ⟨g1, 0, none⟩) h.words.length h.words.length) (.slice oa (obC h).length oc) (.slice (some ⟨g2, 0, none⟩) h.roots.length h.roots.length) (.int .i64 h.old) (.int .i64 h.eden) (.int .i64 h.surv) (.bool h.flip) (.int .i64 h.hash) (.slice (some ⟨g3, 0, none⟩) h.kept.length h.kept.length) := ⟨cell_new w1 _ _ _ rfl 0 _ rfl, cell_new w1 _ _ _ rfl 1 _ rfl, cell_new w1 _ _ _ rfl 2 _ rfl, cell_new w1 _ _ _ rfl 3 _ rfl, cell_new w1 _ _ _ rfl 4 _ rfl, cell_new w1 _ _ _ rfl 5 _ rfl, cell_new w1 _ _ _ rfl 6 _ rfl, cell_new w1 _ _ _ rfl 7 _ rfl, cell_new w1 _ _ _ rfl 8 _ rfl, ⟨fd, D2⟩⟩
  have WR := implWrite_c w1.heap.size (w.heap.size + 2) g1 g2 g3 oc oa h x i y _ D3 (q1.later al) (q2.later al) (q3.later al) (io.later al) farO hk (by omega) l0' (by omega) l1 l2 ltg3
  clear D2 D3 R1
  go_wp2_with fail
  refine WR.mono ?_
  rintro e w2 ⟨rfl, hb2, cont⟩
  have R3 := R2.of_block (hb2.block _ (by omega))
  have szA : (w1.alloc (.cells #[.slice (some ⟨g1, 0, none⟩) h.words.length h.words.length, .slice oa (obC h).length oc, .slice (some ⟨g2, 0, none⟩) h.roots.length h.roots.length, .int .i64 h.old, .int .i64 h.eden, .int .i64 h.surv, .bool h.flip, .int .i64 h.hash, .slice (some ⟨g3, 0, none⟩) h.kept.length h.kept.length] 49)).heap.size = w1.heap.size + 1 := by simp
  have hbw2 : Below w.heap.size w w2 := hbA.trans (hb2.mono (by omega))
  clear WR R2 hb2
  cases AB : putB h x i y
  · rw [AB] at cont
    clear cont
    have r0 := R3.cell (i := 0) (by omega)
    have r1 := R3.cell (i := 1) (by omega)
    have r2 := R3.cell (i := 2) (by omega)
    have r3 := R3.cell (i := 3) (by omega)
    have r4 := R3.cell (i := 4) (by omega)
    have r5 := R3.cell (i := 5) (by omega)
    have r6 := R3.cell (i := 6) (by omega)
    have r7 := R3.cell (i := 7) (by omega)
    have fR := fun i => R3.frozen i
    have ltR := R3.lt
    have B9 : Below w.heap.size w ((((((((w2.setCell ⟨w.heap.size + 1, 0, none⟩ (.slice none 0 0)).setCell ⟨w.heap.size + 1, 1, none⟩ (.slice none 0 0)).setCell ⟨w.heap.size + 1, 2, none⟩ (.int .i64 0)).setCell ⟨w.heap.size + 1, 3, none⟩ (.int .i64 0)).setCell ⟨w.heap.size + 1, 4, none⟩ (.int .i64 0)).setCell ⟨w.heap.size + 1, 5, none⟩ (.bool false)).setCell ⟨w.heap.size + 1, 6, none⟩ (.int .i64 0)).setCell ⟨w.heap.size + 1, 7, none⟩ (.slice none 0 0)) := by
      repeat (refine Below.setCell ?_ (p := ⟨w.heap.size + 1, _, none⟩) (Nat.le_succ _) _)
      exact hbw2
    go_wp2
    exact bodyPost_ret (v := .tuple #[.agg #[.slice none 0 0, .slice none 0 0, .int .i64 0, .int .i64 0, .int .i64 0, .bool false, .int .i64 0, .slice none 0 0], .bool false]) (by simp [results, Tryz.results7, go_sem, r0, r1, r2, r3, r4, r5, r6, r7]) rfl ⟨⟨_, zero_ret AB (put_no AB)⟩, B9⟩
  obtain ⟨g', n', c', E9, S1f, S2f, S3f, hn', ng1, ng3, ng4, ng5⟩ := cont AB
  rw [put_yes AB] at S1f S3f hn'
  have EP := put_yes AB
  generalize (x / 2).toNat = a at *
  generalize i.toNat = k at *
  have WL : (putH h a k y).words.length = h.words.length := by unfold putH; simp
  replace hn' : Hid (n' = (putH h a k y).kept.length) := hn'
  replace EP : Hid (putC h x i y = putH h a k y) := EP
  replace WL : Hid ((putH h a k y).words.length = h.words.length) := WL
  clear cont
  have ltN := E9.lt
  obtain ⟨t0, t1, t2, t3, t4, t5, t6, t7, t8, -⟩ := id E9
  go_wp2_with fail
  refine (draftHeap_any _ _ _ _ _ _ _ _ _ _ _ _ _ _ _ _ _ _).mono ?_
  rintro e w9 ⟨rfl, hb9⟩
  have RA := R3.of_block (hb9.block _ R3.lt)
  have bel9 := bel_after hbw2 hb9
  have OKC : (#[.slice (some ⟨g1, 0, none⟩) h.words.length h.words.length, .slice (some ⟨g2, 0, none⟩) h.roots.length h.roots.length, .int .i64 h.old, .int .i64 h.eden, .int .i64 h.surv, .bool h.flip, .int .i64 h.hash, .slice (some ⟨g', 0, none⟩) n' c'] : Array Value).all (·.oneCell') = true := by simp [Value.oneCell']
  clear t0 t1 t2 t3 t4 t5 t6 t7 t8 E9 R3
  go_wp2_with ((with_reducible refine store_box _ ?_ (.tmp 8) (.tmp 28) 26 ?_ 26 (w.heap.size + 1) 8 #[.slice (some ⟨g1, 0, none⟩) h.words.length h.words.length, .slice (some ⟨g2, 0, none⟩) h.roots.length h.roots.length, .int .i64 h.old, .int .i64 h.eden, .int .i64 h.surv, .bool h.flip, .int .i64 h.hash, .slice (some ⟨g', 0, none⟩) n' c'] f ?_ ?_ RA ?_ ?_ OKC ?_); rfl; rfl; rfl; rfl; rfl; kernel_rfl; intro wA KA GA; have r0 : wA.cell? ⟨w.heap.size + 1, 0, none⟩ = some (.slice (some ⟨g1, 0, none⟩) h.words.length h.words.length) := KA.cell (i := 0) (by omega); have r1 : wA.cell? ⟨w.heap.size + 1, 1, none⟩ = some (.slice (some ⟨g2, 0, none⟩) h.roots.length h.roots.length) := KA.cell (i := 1) (by omega); have r2 : wA.cell? ⟨w.heap.size + 1, 2, none⟩ = some (.int .i64 h.old) := KA.cell (i := 2) (by omega); have r3 : wA.cell? ⟨w.heap.size + 1, 3, none⟩ = some (.int .i64 h.eden) := KA.cell (i := 3) (by omega); have r4 : wA.cell? ⟨w.heap.size + 1, 4, none⟩ = some (.int .i64 h.surv) := KA.cell (i := 4) (by omega); have r5 : wA.cell? ⟨w.heap.size + 1, 5, none⟩ = some (.bool h.flip) := KA.cell (i := 5) (by omega); have r6 : wA.cell? ⟨w.heap.size + 1, 6, none⟩ = some (.int .i64 h.hash) := KA.cell (i := 6) (by omega); have r7 : wA.cell? ⟨w.heap.size + 1, 7, none⟩ = some (.slice (some ⟨g', 0, none⟩) n' c') := KA.cell (i := 7) (by omega))
  have BA : Below w.heap.size w wA := Below.grown bel9 GA bel9.size (fun q hq => by cases hq; omega)
  have HF : HN w.heap.size wA (.agg #[.slice (some ⟨g1, 0, none⟩) h.words.length h.words.length, .slice (some ⟨g2, 0, none⟩) h.roots.length h.roots.length, .int .i64 h.old, .int .i64 h.eden, .int .i64 h.surv, .bool h.flip, .int .i64 h.hash, .slice (some ⟨g', 0, none⟩) n' c']) (putC h x i y) := by
    rw [EP.out]
    have q := HN.of_rows (h := putH h a k y) (B := w.heap.size) ((S1f.later hb9).grown GA (by intro e; cases e; omega)) ((S2f.later hb9).grown GA (by intro e; cases e; omega)) ((S3f.later hb9).grown GA (by intro e; cases e; omega)) (by omega) (by omega) (by omega) (by omega) ng3 ng4
    rw [WL.out, ← hn'.out] at q
    exact q
  exact bodyPost_ret (v := .tuple #[.agg #[.slice (some ⟨g1, 0, none⟩) h.words.length h.words.length, .slice (some ⟨g2, 0, none⟩) h.roots.length h.roots.length, .int .i64 h.old, .int .i64 h.eden, .int .i64 h.surv, .bool h.flip, .int .i64 h.hash, .slice (some ⟨g', 0, none⟩) n' c'], .bool true]) (by simp [results, Tryz.results7, go_sem, r0, r1, r2, r3, r4, r5, r6, r7]) rfl ⟨⟨_, by rw [AB], HF⟩, BA⟩
end Go.Proofs.YtklafifiphbibaaGreat
