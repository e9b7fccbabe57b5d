/- The draw DrawNew of the model. -/
import Derived.Test.YtphkmgalgngjiaaGreatZP11
import Derived.Test.YtphkmgalgngjiaaGreatZLAny
namespace Go.Proofs.YtphkmgalgngjiaaGreat
open Go.RowKit

set_option maxRecDepth 100000 in
set_option maxHeartbeats 3200000 in
theorem drawNew_any (cv : Value) (cs : List UInt8) (w : World) (hc : BR w cv cs) (hn : cs.length ≤ 4096) :
    Calls Tryz.prog 7 #[cv] w fun x w' => (∃ t v1 v2 v3 y i, x = .returned (.tuple #[.agg #[v1, v2, .int .i64 t.old, .int .i64 t.eden, .int .i64 t.surv, .bool t.flip, .int .i64 t.hash, v3], .int .i64 y, .int .i64 i]) ∧ In64 y ∧ In64 i ∧ HA w.heap.size w' t v1 v2 v3 ∧ t.words.length ≤ 3200 ∧ t.roots.length ≤ 21 ∧ t.kept.length ≤ 3201) ∧ Below w.heap.size w w' := by
  have h0 := bel_one w (.cells #[.slice none 0 0, .slice none 0 0, .int .i64 0, .int .i64 0, .int .i64 0, .bool false, .int .i64 0, .slice none 0 0] 26)
  have R0 := row_any w #[.slice none 0 0, .slice none 0 0, .int .i64 0, .int .i64 0, .int .i64 0, .bool false, .int .i64 0, .slice none 0 0] 26
  have NW := l1New_any cv cs _ (hc.later h0) hn
  have z0 : (w.alloc (.cells #[.slice none 0 0, .slice none 0 0, .int .i64 0, .int .i64 0, .int .i64 0, .bool false, .int .i64 0, .slice none 0 0] 26)).heap.size = w.heap.size + 1 := by simp
  have hmx : Tryz.prog.follows .mixedOrders = true := by kernel_rfl
  go_enter Tryz.func7, Tryz.ntmps7
  go_wp2_with fail
  refine NW.mono ?_
  rintro x w1 ⟨N, rfl, hN, hN1, hb1, d1⟩
  clear NW
  rw [z0] at hN
  have R1 := World.rowIs.of_block R0 (hb1.block _ (by rw [z0]; omega))
  have hbw1 := bel_after h0 hb1
  clear h0 hb1 z0 R0
  go_wp2_with fail
  refine (d1.any hN1).mono ?_
  rintro x w2 ⟨⟨t, v1, v2, v3, rfl, ha, sz⟩, g2, d2⟩
  obtain ⟨p1, e1, rfl, -⟩ := IRs ha.w1
  obtain ⟨p2, e2, rfl, -⟩ := IRs (IR_of_owns ha.o2)
  obtain ⟨p3, e3, rfl, -⟩ := IRs (IR_of_owns ha.o3)
  have K2 := AX.new hc hbw1 R1 (by omega) hN1 g2 d2 ha sz
  clear ha g2 d2 R1 d1 hbw1
  go_wp2_with fail
  refine (K2.dw.less 6 (by omega) (by omega)).mono ?_
  rintro x w3 ⟨⟨k, rfl, k0, k1⟩, g3, d3⟩
  have K3 := K2.step ⟨g3, d3⟩
  have hk : In64 k := by unfold In64; omega
  clear K2 g3 d3 k0 k1
  go_wp2_with fail
  refine (K3.dw.less 8 (by omega) (by omega)).mono ?_
  rintro x w4 ⟨⟨n, rfl, i0, i1⟩, g4, d4⟩
  have K4 := K3.step ⟨g4, d4⟩
  have hnn : In64 n := by unfold In64; omega
  clear K3 g4 d4 i0 i1
  go_wp2_with fail
  refine (K4.dw.once 10 (by omega) (by omega)).mono ?_
  rintro x w5 ⟨⟨bo, rfl⟩, g5, d5⟩
  have K5 := K4.step ⟨g5, d5⟩
  clear K4 g5 d5
  cases bo
  · skip
    go_wp2_with fail
    refine (K5.dw.once 8 (by omega) (by omega)).mono ?_
    rintro x w7 ⟨⟨bp, rfl⟩, g7, d7⟩
    have K7 := K5.step ⟨g7, d7⟩
    clear K5 g7 d7
    cases bp
    · skip
      have OKC : (#[.slice p1 t.words.length e1, .slice p2 t.roots.length e2, .int .i64 t.old, .int .i64 t.eden, .int .i64 t.surv, .bool t.flip, .int .i64 t.hash, .slice p3 t.kept.length e3] : Array Value).all (·.oneCell') = true := by simp [Value.oneCell']
      obtain ⟨fR, FR⟩ := K7.res
      obtain ⟨c0, c1, c2, c3, c4, c5, c6, c7⟩ := va8_cells K7.row
      have ED := fun W' (q : World.grownBy _ W' _) => K7.done q
      go_wp2_with ((with_reducible refine store_box _ ?_ (.tmp 2) (.tmp 31) 26 ?_ 26 w.heap.size 8 #[.slice p1 t.words.length e1, .slice p2 t.roots.length e2, .int .i64 t.old, .int .i64 t.eden, .int .i64 t.surv, .bool t.flip, .int .i64 t.hash, .slice p3 t.kept.length e3] _ ?_ ?_ FR ?_ ?_ OKC ?_); rfl; rfl; rfl; rfl; rfl; kernel_rfl; intro w9 F9 G9)
      have r0 := F9.cell (i := 0) (by omega); have r1 := F9.cell (i := 1) (by omega); have r2 := F9.cell (i := 2) (by omega); have r3 := F9.cell (i := 3) (by omega); have r4 := F9.cell (i := 4) (by omega); have r5 := F9.cell (i := 5) (by omega); have r6 := F9.cell (i := 6) (by omega); have r7 := F9.cell (i := 7) (by omega)
      exact bodyPost_ret (v := .tuple #[.agg #[.slice p1 t.words.length e1, .slice p2 t.roots.length e2, .int .i64 t.old, .int .i64 t.eden, .int .i64 t.surv, .bool t.flip, .int .i64 t.hash, .slice p3 t.kept.length e3], .int .i64 k, .int .i64 n]) (by simp [results, Tryz.results7, go_sem, r0, r1, r2, r3, r4, r5, r6, r7]) rfl ⟨⟨t, _, _, _, k, n, rfl, hk, hnn, (ED _ G9).1, K7.sz⟩, (ED _ G9).2⟩
    · skip
      have al8 := bel_one w7 (.cells #[.int .i64 (-1), .int .i64 60, .int .i64 61, .int .i64 4611686018427387904] 2)
      have Ka8 := K7.later al8
      have lt8 := K7.lt
      go_wp2_with fail
      refine (Ka8.dw.less 4 (by omega) (by omega)).mono ?_
      rintro x w7l ⟨⟨z, rfl, zl, zu⟩, gl, dl⟩
      obtain ⟨k8, rfl⟩ := Int.eq_ofNat_of_zero_le zl
      obtain ⟨n', ck8, hi8⟩ := lit_at _ (by rfl) gl lt8 k8 (by simp; omega)
      have kl8 : (k8 : Int) < 4 := by omega
      have K9 := Ka8.step ⟨gl, dl⟩
      clear gl dl Ka8 al8
      have OKC : (#[.slice p1 t.words.length e1, .slice p2 t.roots.length e2, .int .i64 t.old, .int .i64 t.eden, .int .i64 t.surv, .bool t.flip, .int .i64 t.hash, .slice p3 t.kept.length e3] : Array Value).all (·.oneCell') = true := by simp [Value.oneCell']
      obtain ⟨fR, FR⟩ := K9.res
      obtain ⟨c0, c1, c2, c3, c4, c5, c6, c7⟩ := va8_cells K9.row
      have ED := fun W' (q : World.grownBy _ W' _) => K9.done q
      go_wp2_with ((with_reducible refine store_box _ ?_ (.tmp 2) (.tmp 31) 26 ?_ 26 w.heap.size 8 #[.slice p1 t.words.length e1, .slice p2 t.roots.length e2, .int .i64 t.old, .int .i64 t.eden, .int .i64 t.surv, .bool t.flip, .int .i64 t.hash, .slice p3 t.kept.length e3] _ ?_ ?_ FR ?_ ?_ OKC ?_); rfl; rfl; rfl; rfl; rfl; kernel_rfl; intro w9 F9 G9)
      have r0 := F9.cell (i := 0) (by omega); have r1 := F9.cell (i := 1) (by omega); have r2 := F9.cell (i := 2) (by omega); have r3 := F9.cell (i := 3) (by omega); have r4 := F9.cell (i := 4) (by omega); have r5 := F9.cell (i := 5) (by omega); have r6 := F9.cell (i := 6) (by omega); have r7 := F9.cell (i := 7) (by omega)
      exact bodyPost_ret (v := .tuple #[.agg #[.slice p1 t.words.length e1, .slice p2 t.roots.length e2, .int .i64 t.old, .int .i64 t.eden, .int .i64 t.surv, .bool t.flip, .int .i64 t.hash, .slice p3 t.kept.length e3], .int .i64 k, .int .i64 n']) (by simp [results, Tryz.results7, go_sem, r0, r1, r2, r3, r4, r5, r6, r7]) rfl ⟨⟨t, _, _, _, k, n', rfl, hk, hi8, (ED _ G9).1, K9.sz⟩, (ED _ G9).2⟩
  · clear hk
    have al6 := bel_one w5 (.cells #[.int .i64 (-1), .int .i64 99, .int .i64 100, .int .i64 4611686018427387904] 2)
    have Ka6 := K5.later al6
    have lt6 := K5.lt
    go_wp2_with fail
    refine (Ka6.dw.less 4 (by omega) (by omega)).mono ?_
    rintro x w5l ⟨⟨z, rfl, zl, zu⟩, gl, dl⟩
    obtain ⟨k6, rfl⟩ := Int.eq_ofNat_of_zero_le zl
    obtain ⟨k', ck6, hi6⟩ := lit_at _ (by rfl) gl lt6 k6 (by simp; omega)
    have kl6 : (k6 : Int) < 4 := by omega
    have K6 := Ka6.step ⟨gl, dl⟩
    clear gl dl Ka6 al6
    go_wp2_with fail
    refine (K6.dw.once 8 (by omega) (by omega)).mono ?_
    rintro x w7 ⟨⟨bp, rfl⟩, g7, d7⟩
    have K7 := K6.step ⟨g7, d7⟩
    clear K6 g7 d7
    cases bp
    · skip
      have OKC : (#[.slice p1 t.words.length e1, .slice p2 t.roots.length e2, .int .i64 t.old, .int .i64 t.eden, .int .i64 t.surv, .bool t.flip, .int .i64 t.hash, .slice p3 t.kept.length e3] : Array Value).all (·.oneCell') = true := by simp [Value.oneCell']
      obtain ⟨fR, FR⟩ := K7.res
      obtain ⟨c0, c1, c2, c3, c4, c5, c6, c7⟩ := va8_cells K7.row
      have ED := fun W' (q : World.grownBy _ W' _) => K7.done q
      go_wp2_with ((with_reducible refine store_box _ ?_ (.tmp 2) (.tmp 31) 26 ?_ 26 w.heap.size 8 #[.slice p1 t.words.length e1, .slice p2 t.roots.length e2, .int .i64 t.old, .int .i64 t.eden, .int .i64 t.surv, .bool t.flip, .int .i64 t.hash, .slice p3 t.kept.length e3] _ ?_ ?_ FR ?_ ?_ OKC ?_); rfl; rfl; rfl; rfl; rfl; kernel_rfl; intro w9 F9 G9)
      have r0 := F9.cell (i := 0) (by omega); have r1 := F9.cell (i := 1) (by omega); have r2 := F9.cell (i := 2) (by omega); have r3 := F9.cell (i := 3) (by omega); have r4 := F9.cell (i := 4) (by omega); have r5 := F9.cell (i := 5) (by omega); have r6 := F9.cell (i := 6) (by omega); have r7 := F9.cell (i := 7) (by omega)
      exact bodyPost_ret (v := .tuple #[.agg #[.slice p1 t.words.length e1, .slice p2 t.roots.length e2, .int .i64 t.old, .int .i64 t.eden, .int .i64 t.surv, .bool t.flip, .int .i64 t.hash, .slice p3 t.kept.length e3], .int .i64 k', .int .i64 n]) (by simp [results, Tryz.results7, go_sem, r0, r1, r2, r3, r4, r5, r6, r7]) rfl ⟨⟨t, _, _, _, k', n, rfl, hi6, hnn, (ED _ G9).1, K7.sz⟩, (ED _ G9).2⟩
    · skip
      have al8 := bel_one w7 (.cells #[.int .i64 (-1), .int .i64 60, .int .i64 61, .int .i64 4611686018427387904] 2)
      have Ka8 := K7.later al8
      have lt8 := K7.lt
      go_wp2_with fail
      refine (Ka8.dw.less 4 (by omega) (by omega)).mono ?_
      rintro x w7l ⟨⟨z, rfl, zl, zu⟩, gl, dl⟩
      obtain ⟨k8, rfl⟩ := Int.eq_ofNat_of_zero_le zl
      obtain ⟨n', ck8, hi8⟩ := lit_at _ (by rfl) gl lt8 k8 (by simp; omega)
      have kl8 : (k8 : Int) < 4 := by omega
      have K9 := Ka8.step ⟨gl, dl⟩
      clear gl dl Ka8 al8
      have OKC : (#[.slice p1 t.words.length e1, .slice p2 t.roots.length e2, .int .i64 t.old, .int .i64 t.eden, .int .i64 t.surv, .bool t.flip, .int .i64 t.hash, .slice p3 t.kept.length e3] : Array Value).all (·.oneCell') = true := by simp [Value.oneCell']
      obtain ⟨fR, FR⟩ := K9.res
      obtain ⟨c0, c1, c2, c3, c4, c5, c6, c7⟩ := va8_cells K9.row
      have ED := fun W' (q : World.grownBy _ W' _) => K9.done q
      go_wp2_with ((with_reducible refine store_box _ ?_ (.tmp 2) (.tmp 31) 26 ?_ 26 w.heap.size 8 #[.slice p1 t.words.length e1, .slice p2 t.roots.length e2, .int .i64 t.old, .int .i64 t.eden, .int .i64 t.surv, .bool t.flip, .int .i64 t.hash, .slice p3 t.kept.length e3] _ ?_ ?_ FR ?_ ?_ OKC ?_); rfl; rfl; rfl; rfl; rfl; kernel_rfl; intro w9 F9 G9)
      have r0 := F9.cell (i := 0) (by omega); have r1 := F9.cell (i := 1) (by omega); have r2 := F9.cell (i := 2) (by omega); have r3 := F9.cell (i := 3) (by omega); have r4 := F9.cell (i := 4) (by omega); have r5 := F9.cell (i := 5) (by omega); have r6 := F9.cell (i := 6) (by omega); have r7 := F9.cell (i := 7) (by omega)
      exact bodyPost_ret (v := .tuple #[.agg #[.slice p1 t.words.length e1, .slice p2 t.roots.length e2, .int .i64 t.old, .int .i64 t.eden, .int .i64 t.surv, .bool t.flip, .int .i64 t.hash, .slice p3 t.kept.length e3], .int .i64 k', .int .i64 n']) (by simp [results, Tryz.results7, go_sem, r0, r1, r2, r3, r4, r5, r6, r7]) rfl ⟨⟨t, _, _, _, k', n', rfl, hi6, hi8, (ED _ G9).1, K9.sz⟩, (ED _ G9).2⟩

end Go.Proofs.YtphkmgalgngjiaaGreat
