/- The draw of FnHeaps: DrawHeapOk of the model. -/
import Derived.Test.YtphkmgalgngjiaaZLAny
namespace Go.Proofs.Ytphkmgalgngjiaa
open Go.RowKit

theorem HA.down {B C : Nat} {w : World} {t : Hp} {v1 v2 v3 : Value} (k : HA B w t v1 v2 v3) (h : C ≤ B) : HA C w t v1 v2 v3 :=
  ⟨k.w1, fun b q => Nat.le_trans h (k.b1 b q), own_down k.o2 h, own_down k.o3 h, k.d1, k.d2⟩

set_option maxRecDepth 100000 in
set_option maxHeartbeats 3200000 in
theorem drawHeapOk_any (cv : Value) (cs : List UInt8) (w : World) (hc : BR w cv cs) (hn : cs.length ≤ 4096) :
    Calls Try.prog 5 #[cv] w fun x w' => (∃ t v1 v2 v3, x = .returned (.agg #[v1, v2, .int .i64 t.old, .int .i64 t.eden, .int .i64 t.surv, .bool t.flip, .int .i64 t.hash, v3]) ∧ HA w.heap.size w' t v1 v2 v3 ∧ t.words.length ≤ 3200 ∧ t.roots.length ≤ 21 ∧ t.kept.length ≤ 3201) ∧ Below w.heap.size w w' := by
  have h0 := bel_one w (.cells #[.slice none 0 0, .slice none 0 0, .int .i64 0, .int .i64 0, .int .i64 0, .bool false, .int .i64 0, .slice none 0 0] 26)
  have R0 := row_any w #[.slice none 0 0, .slice none 0 0, .int .i64 0, .int .i64 0, .int .i64 0, .bool false, .int .i64 0, .slice none 0 0] 26
  have NW := l1New_any cv cs _ (hc.later h0) hn
  have z0 : (w.alloc (.cells #[.slice none 0 0, .slice none 0 0, .int .i64 0, .int .i64 0, .int .i64 0, .bool false, .int .i64 0, .slice none 0 0] 26)).heap.size = w.heap.size + 1 := by simp
  go_enter Try.func5, Try.ntmps5
  go_wp2_with fail
  refine NW.mono ?_
  rintro x w1 ⟨N, rfl, hN, hN1, hb1, d1⟩
  clear NW
  rw [z0] at hN
  have R1 := World.rowIs.of_block R0 (hb1.block _ (by rw [z0]; omega))
  go_wp2_with fail
  refine (d1.any hN1).mono ?_
  rintro x w2 ⟨⟨t, v1, v2, v3, rfl, ha, sz⟩, g2, d2⟩
  have R2 := World.rowIs.of_block R1 (g2.block _ (World.rowIs.lt R1) (fun e => by have := Option.some.inj e; omega))
  obtain ⟨p1, e1, rfl, -⟩ := IRs ha.w1
  obtain ⟨p2, e2, rfl, -⟩ := IRs (IR_of_owns ha.o2)
  obtain ⟨p3, e3, rfl, -⟩ := IRs (IR_of_owns ha.o3)
  have hw1 : w.heap.size < w1.heap.size := by omega
  have FIN : Hid (∀ W, w2.grownBy W (some w.heap.size) → HA w.heap.size W t (.slice p1 t.words.length e1) (.slice p2 t.roots.length e2) (.slice p3 t.kept.length e3) ∧ Below w.heap.size w W) := fun W g =>
    ⟨(ha.off g hw1).down (by omega), gbel (gbel (bel_after h0 hb1) g2 (by omega) (by omega)) g (by have := g2.size; omega) (Nat.le_refl _)⟩
  have OKC : (#[.slice p1 t.words.length e1, .slice p2 t.roots.length e2, .int .i64 t.old, .int .i64 t.eden, .int .i64 t.surv, .bool t.flip, .int .i64 t.hash, .slice p3 t.kept.length e3] : Array Value).all (·.oneCell') = true := by simp [Value.oneCell']
  clear ha g2 d2 R0 R1 h0 hb1 d1 z0
  go_wp2_with ((with_reducible refine store_box _ ?_ (.tmp 2) (.tmp 7) 26 ?_ 26 w.heap.size 8 #[.slice p1 t.words.length e1, .slice p2 t.roots.length e2, .int .i64 t.old, .int .i64 t.eden, .int .i64 t.surv, .bool t.flip, .int .i64 t.hash, .slice p3 t.kept.length e3] _ ?_ ?_ R2 ?_ ?_ OKC ?_); rfl; rfl; rfl; rfl; rfl; kernel_rfl; intro w9 F9 G9)
  have r0 := F9.cell (i := 0) (by omega); have r1 := F9.cell (i := 1) (by omega); have r2 := F9.cell (i := 2) (by omega); have r3 := F9.cell (i := 3) (by omega); have r4 := F9.cell (i := 4) (by omega); have r5 := F9.cell (i := 5) (by omega); have r6 := F9.cell (i := 6) (by omega); have r7 := F9.cell (i := 7) (by omega)
  exact bodyPost_ret (v := .agg #[.slice p1 t.words.length e1, .slice p2 t.roots.length e2, .int .i64 t.old, .int .i64 t.eden, .int .i64 t.surv, .bool t.flip, .int .i64 t.hash, .slice p3 t.kept.length e3]) (by simp [results, Try.results5, go_sem, r0, r1, r2, r3, r4, r5, r6, r7]) rfl ⟨⟨t, _, _, _, rfl, (FIN.out _ G9).1, sz⟩, (FIN.out _ G9).2⟩

end Go.Proofs.Ytphkmgalgngjiaa
