/- The draw DrawSetRoot of the model. -/
import Derived.Test.YtphkmgalgngjiaaGreatZN12
import Derived.Test.YtphkmgalgngjiaaGreatZLAny
import Derived.Test.YtphkmgalgngjiaaGreatZN13
namespace Go.Proofs.YtphkmgalgngjiaaGreat
open Go.RowKit

set_option maxRecDepth 100000 in
set_option maxHeartbeats 6400000 in
theorem drawSetRoot_any (cv : Value) (cs : List UInt8) (w : World) (hc : BR w cv cs) (hn : cs.length ≤ 4096) :
    Calls Tryz.prog 21 #[cv] w fun x w' => (∃ t v1 v2 v3 i y, x = .returned (.tuple #[.agg #[v1, v2, .int .i64 t.old, .int .i64 t.eden, .int .i64 t.surv, .bool t.flip, .int .i64 t.hash, v3], .int .i64 i, .int .i64 y]) ∧ In64 i ∧ In64 y ∧ HA w.heap.size w' t v1 v2 v3 ∧ t.words.length ≤ 3200 ∧ t.roots.length ≤ 21 ∧ t.kept.length ≤ 3201) ∧ Below w.heap.size w w' := by
  have h0 := bel_one w (.cells #[.slice none 0 0, .slice none 0 0, .int .i64 0, .int .i64 0, .int .i64 0, .bool false, .int .i64 0, .slice none 0 0] 26)
  have R0 := row_any w #[.slice none 0 0, .slice none 0 0, .int .i64 0, .int .i64 0, .int .i64 0, .bool false, .int .i64 0, .slice none 0 0] 26
  have NW := l1New_any cv cs _ (hc.later h0) hn
  have z0 : (w.alloc (.cells #[.slice none 0 0, .slice none 0 0, .int .i64 0, .int .i64 0, .int .i64 0, .bool false, .int .i64 0, .slice none 0 0] 26)).heap.size = w.heap.size + 1 := by simp
  have hmx : Tryz.prog.follows .mixedOrders = true := by kernel_rfl
  go_enter Tryz.func21, Tryz.ntmps21
  go_wp2_with fail
  refine NW.mono ?_
  rintro x w1 ⟨N, rfl, hN, hN1, hb1, d1⟩
  clear NW
  rw [z0] at hN
  have R1 := World.rowIs.of_block R0 (hb1.block _ (by rw [z0]; omega))
  have hbw1 := bel_after h0 hb1
  clear h0 hb1 z0 R0
  go_wp2_with fail
  refine (d1.any hN1).mono ?_
  rintro x w2 ⟨⟨t, v1, v2, v3, rfl, ha, sz⟩, g2, d2⟩
  obtain ⟨p1, e1, rfl, -⟩ := IRs ha.w1
  obtain ⟨p2, e2, rfl, -⟩ := IRs (IR_of_owns ha.o2)
  obtain ⟨p3, e3, rfl, -⟩ := IRs (IR_of_owns ha.o3)
  have K2 := AX.new hc hbw1 R1 (by omega) hN1 g2 d2 ha sz
  clear ha g2 d2 R1 d1 hbw1
  obtain ⟨c0, c1, c2, c3, c4, c5, c6, c7⟩ := va8_cells K2.row
  have LS := K2.dw.less ((t.roots.length : Int) + 1) (by omega) (by omega)
  go_wp2_with fail
  refine LS.mono ?_
  rintro x w3 ⟨⟨i, rfl, i0, i1⟩, g3, d3⟩
  have K3 := K2.step ⟨g3, d3⟩
  have hi : In64 i := by unfold In64; omega
  generalize w2.heap.size = H at *
  clear K2 g3 d3 LS c0 c1 c2 c3 c4 c5 c6 c7 i0 i1
  go_wp2_with fail
  refine (K3.dw.once 12 (by omega) (by omega)).mono ?_
  rintro x w4 ⟨⟨bo, rfl⟩, g4, d4⟩
  have K4 := K3.step ⟨g4, d4⟩
  clear K3 g4 d4
  cases bo
  · skip
    have OKC : (#[.slice p1 t.words.length e1, .slice p2 t.roots.length e2, .int .i64 t.old, .int .i64 t.eden, .int .i64 t.surv, .bool t.flip, .int .i64 t.hash, .slice p3 t.kept.length e3] : Array Value).all (·.oneCell') = true := by simp [Value.oneCell']
    have hs0 : AX w w1.heap.size N cv cs H w4.drew t _ _ _ := K4.step (Sx.refl K4.dw).drew
    go_wp2_with fail
    refine Disk.z_plain 99 (fun W' => AX w w1.heap.size N cv cs H W' t (.slice p1 t.words.length e1) (.slice p2 t.roots.length e2) (.slice p3 t.kept.length e3)) hmx hs0 (fun hs => ?_)
    clear hs0
    generalize w4.drew = wd at hs ⊢
    refine Disk.z_take 0 28 (v := .agg #[.slice p1 t.words.length e1, .slice p2 t.roots.length e2, .int .i64 t.old, .int .i64 t.eden, .int .i64 t.surv, .bool t.flip, .int .i64 t.hash, .slice p3 t.kept.length e3]) rfl rfl (by kernel_rfl) (by kernel_rfl) (by kernel_rfl) (by kernel_rfl) (by rfl) hs (fun W' hSw => (by
      obtain ⟨s0, s1, s2, s3, s4, s5, s6, s7⟩ := va8_cells hSw.row
      go_simp; first | done | with_reducible rfl)) ?_
    simp only [List.setIfInBounds_toArray, List.set_cons_zero, List.set_cons_succ]
    refine Disk.z_take 1 29 (v := .int .i64 i) rfl rfl (by kernel_rfl) (by kernel_rfl) (by kernel_rfl) (by kernel_rfl) (by rfl) hs (fun W' hSw => (by
      obtain ⟨s0, s1, s2, s3, s4, s5, s6, s7⟩ := va8_cells hSw.row
      go_simp; first | done | with_reducible rfl)) ?_
    simp only [List.setIfInBounds_toArray, List.set_cons_zero, List.set_cons_succ]
    refine Disk.z_take 2 30 (v := .pointer (some ⟨N, 0, none⟩)) rfl rfl (by kernel_rfl) (by kernel_rfl) (by kernel_rfl) (by kernel_rfl) (by rfl) hs (fun W' hSw => (by
      obtain ⟨s0, s1, s2, s3, s4, s5, s6, s7⟩ := va8_cells hSw.row
      go_simp; first | done | with_reducible rfl)) ?_
    simp only [List.setIfInBounds_toArray, List.set_cons_zero, List.set_cons_succ]
    refine Disk.z_take 3 31 (v := .agg #[.slice p1 t.words.length e1, .slice p2 t.roots.length e2, .int .i64 t.old, .int .i64 t.eden, .int .i64 t.surv, .bool t.flip, .int .i64 t.hash, .slice p3 t.kept.length e3]) rfl rfl (by kernel_rfl) (by kernel_rfl) (by kernel_rfl) (by kernel_rfl) (by rfl) hs (fun W' hSw => (by
      obtain ⟨s0, s1, s2, s3, s4, s5, s6, s7⟩ := va8_cells hSw.row
      go_simp; first | done | with_reducible rfl)) ?_
    simp only [List.setIfInBounds_toArray, List.set_cons_zero, List.set_cons_succ]
    refine Disk.z_call 4 32 rfl rfl (by kernel_rfl) (by rfl) (f := 53) (args := #[.pointer (some ⟨N, 0, none⟩), .agg #[.slice p1 t.words.length e1, .slice p2 t.roots.length e2, .int .i64 t.old, .int .i64 t.eden, .int .i64 t.surv, .bool t.flip, .int .i64 t.hash, .slice p3 t.kept.length e3]]) (w0 := wd) (by go_simp) ?_
    refine (hs.dw.word7 hs.lt hs.hr (by have := hs.sz; omega) (by have := hs.sz; omega)).mono ?_
    rintro e wq ⟨⟨y, rfl, hy⟩, sq⟩
    have hsq := hs.step sq
    refine ⟨_, rfl, .inr hsq, ?_⟩
    simp only [List.setIfInBounds_toArray, List.set_cons_zero, List.set_cons_succ]
    clear hs sq
    obtain ⟨fR, FR⟩ := hsq.res
    obtain ⟨w9, run9, F9, G9⟩ := store_run wq w.heap.size _ fR FR rfl OKC
    have hs9 := hsq.ans G9 F9
    have ED := hsq.done G9
    refine Disk.z_skip 5 (w' := w9) rfl rfl (by kernel_rfl) (by rfl) (exec_store rfl rfl rfl run9) (.inr hs9) ?_
    refine Disk.z_run 6 3 (v := .int .i64 i) rfl rfl (by kernel_rfl) (by rfl) (w' := w9) (by go_simp; first | done | with_reducible rfl) (.inr hs9) ?_
    simp only [List.setIfInBounds_toArray, List.set_cons_zero, List.set_cons_succ]
    refine Disk.z_run 7 4 (v := .int .i64 y) rfl rfl (by kernel_rfl) (by rfl) (w' := w9) (by go_simp; first | done | with_reducible rfl) (.inr hs9) ?_
    simp only [List.setIfInBounds_toArray, List.set_cons_zero, List.set_cons_succ]
    refine Disk.z_done (by kernel_rfl) ?_ _
    have r0 := F9.cell (i := 0) (by omega); have r1 := F9.cell (i := 1) (by omega); have r2 := F9.cell (i := 2) (by omega); have r3 := F9.cell (i := 3) (by omega); have r4 := F9.cell (i := 4) (by omega); have r5 := F9.cell (i := 5) (by omega); have r6 := F9.cell (i := 6) (by omega); have r7 := F9.cell (i := 7) (by omega)
    have sz9 := hsq.sz
    clear run9 G9 FR hsq hs9 OKC
    go_wp2_with fail
    exact bodyPost_ret (v := .tuple #[.agg #[.slice p1 t.words.length e1, .slice p2 t.roots.length e2, .int .i64 t.old, .int .i64 t.eden, .int .i64 t.surv, .bool t.flip, .int .i64 t.hash, .slice p3 t.kept.length e3], .int .i64 i, .int .i64 y]) (by simp [results, Tryz.results21, go_sem, r0, r1, r2, r3, r4, r5, r6, r7]) rfl ⟨⟨t, _, _, _, i, y, rfl, hi, hy, ED.1, sz9⟩, ED.2⟩
  · clear hi
    have hs0 : AX w w1.heap.size N cv cs H w4.drew t _ _ _ := K4.step (Sx.refl K4.dw).drew
    go_wp2_with fail
    refine Disk.z_plain 99 (fun W' => AX w w1.heap.size N cv cs H W' t (.slice p1 t.words.length e1) (.slice p2 t.roots.length e2) (.slice p3 t.kept.length e3)) hmx hs0 (fun hs => ?_)
    clear hs0 K4
    generalize w4.drew = wd at hs ⊢
    refine Disk.z_take 0 20 (v := .pointer (some ⟨H, 1, none⟩)) rfl rfl (by kernel_rfl) (by kernel_rfl) (by kernel_rfl) (by kernel_rfl) (by rfl) hs (fun W' hSw => (by
      obtain ⟨s0, s1, s2, s3, s4, s5, s6, s7⟩ := va8_cells hSw.row
      go_simp; first | done | with_reducible rfl)) ?_
    simp only [List.setIfInBounds_toArray, List.set_cons_zero, List.set_cons_succ]
    refine Disk.z_take 1 21 (v := .slice p2 t.roots.length e2) rfl rfl (by kernel_rfl) (by kernel_rfl) (by kernel_rfl) (by kernel_rfl) (by rfl) hs (fun W' hSw => (by
      obtain ⟨s0, s1, s2, s3, s4, s5, s6, s7⟩ := va8_cells hSw.row
      go_simp; first | done | with_reducible rfl)) ?_
    simp only [List.setIfInBounds_toArray, List.set_cons_zero, List.set_cons_succ]
    refine Disk.z_take 2 22 (v := .int .i64 (t.roots.length : Int)) rfl rfl (by kernel_rfl) (by kernel_rfl) (by kernel_rfl) (by kernel_rfl) (by rfl) hs (fun W' hSw => (by
      obtain ⟨s0, s1, s2, s3, s4, s5, s6, s7⟩ := va8_cells hSw.row
      go_simp; first | done | with_reducible rfl)) ?_
    simp only [List.setIfInBounds_toArray, List.set_cons_zero, List.set_cons_succ]
    refine Disk.z_take 4 24 (v := .pointer (some ⟨N, 0, none⟩)) rfl rfl (by kernel_rfl) (by kernel_rfl) (by kernel_rfl) (by kernel_rfl) (by rfl) hs (fun W' hSw => (by
      obtain ⟨s0, s1, s2, s3, s4, s5, s6, s7⟩ := va8_cells hSw.row
      go_simp; first | done | with_reducible rfl)) ?_
    simp only [List.setIfInBounds_toArray, List.set_cons_zero, List.set_cons_succ]
    refine z_or (i := 3) (j := 5) (by kernel_rfl) ?_ ?_
    · obtain ⟨wb, gb, ewb, egb, hsb, RB, lgb⟩ : ∃ wb gb, wb = wd.alloc (.cells #[.int .i64 (-1), .int .i64 (t.roots.length : Int), .int .i64 4611686018427387904] 2) ∧ gb = wd.heap.size ∧ AX w w1.heap.size N cv cs H wb t (.slice p1 t.words.length e1) (.slice p2 t.roots.length e2) (.slice p3 t.kept.length e3) ∧ wb.rowIs gb 2 3 (fun i => (#[.int .i64 (-1), .int .i64 (t.roots.length : Int), .int .i64 4611686018427387904] : Array Value)[i]?.getD undef) ∧ N < gb := ⟨_, _, rfl, rfl, hs.later (bel_one _ _), row_any wd #[.int .i64 (-1), .int .i64 (t.roots.length : Int), .int .i64 4611686018427387904] 2, hs.lt⟩
      refine o_run 3 23 (v := .slice (some ⟨gb, 0, none⟩) 3 3) rfl rfl (by rfl) (w' := wb) (by subst ewb; subst egb; go_simp; first | done | with_reducible rfl) (.inr hsb) ?_
      simp only [List.setIfInBounds_toArray, List.set_cons_zero, List.set_cons_succ]
      clear ewb egb
      refine Disk.z_call 5 25 rfl rfl (by kernel_rfl) (by rfl) (f := 34) (args := #[.pointer (some ⟨N, 0, none⟩), .int .i64 3]) (w0 := wb) (by go_simp) ?_
      refine (hsb.dw.less 3 (by omega) (by omega)).mono ?_
      rintro e wq ⟨⟨z, rfl, zl, zu⟩, gq, dq⟩
      have hsq := hsb.step ⟨gq, dq⟩
      refine ⟨_, rfl, .inr hsq, ?_⟩
      simp only [List.setIfInBounds_toArray, List.set_cons_zero, List.set_cons_succ]
      replace RB := RB.of_block (gq.block _ RB.lt (fun e => by have := Option.some.inj e; omega))
      clear hs hsb gq dq
      obtain ⟨k, rfl⟩ := Int.eq_ofNat_of_zero_le zl
      obtain ⟨i, ck, hi⟩ : ∃ i : Int, wq.cell? ⟨gb, k, none⟩ = some (.int .i64 i) ∧ In64 i := by
        have rl := hsq.sz.2.1
        rcases (show k = 0 ∨ k = 1 ∨ k = 2 from by omega) with rfl | rfl | rfl
        · exact ⟨_, RB.cell (i := 0) (by omega), by unfold In64; omega⟩
        · exact ⟨_, RB.cell (i := 1) (by omega), by unfold In64; omega⟩
        · exact ⟨_, RB.cell (i := 2) (by omega), by unfold In64; omega⟩
      have kl : (k : Int) < 3 := by omega
      clear RB
      refine Disk.z_run 6 26 (v := .pointer (some ⟨gb, k, none⟩)) rfl rfl (by kernel_rfl) (by rfl) (w' := wq) (by go_simp; first | done | with_reducible rfl) (.inr hsq) ?_
      simp only [List.setIfInBounds_toArray, List.set_cons_zero, List.set_cons_succ]
      refine Disk.z_run 7 27 (v := .int .i64 i) rfl rfl (by kernel_rfl) (by rfl) (w' := wq) (by go_simp; first | done | with_reducible rfl) (.inr hsq) ?_
      simp only [List.setIfInBounds_toArray, List.set_cons_zero, List.set_cons_succ]
      refine Disk.z_run 8 7 (v := .int .i64 i) rfl rfl (by kernel_rfl) (by rfl) (w' := wq) (by go_simp; first | done | with_reducible rfl) (.inr hsq) ?_
      simp only [List.setIfInBounds_toArray, List.set_cons_zero, List.set_cons_succ]
      refine Disk.z_done (by kernel_rfl) ?_ _
      clear ck
      have OKC : (#[.slice p1 t.words.length e1, .slice p2 t.roots.length e2, .int .i64 t.old, .int .i64 t.eden, .int .i64 t.surv, .bool t.flip, .int .i64 t.hash, .slice p3 t.kept.length e3] : Array Value).all (·.oneCell') = true := by simp [Value.oneCell']
      have hs0 : AX w w1.heap.size N cv cs H wq.drew t _ _ _ := hsq.step (Sx.refl hsq.dw).drew
      go_wp2_with fail
      refine Disk.z_plain 99 (fun W' => AX w w1.heap.size N cv cs H W' t (.slice p1 t.words.length e1) (.slice p2 t.roots.length e2) (.slice p3 t.kept.length e3)) hmx hs0 (fun hs => ?_)
      clear hs0
      generalize wq.drew = wd at hs ⊢
      refine Disk.z_take 0 28 (v := .agg #[.slice p1 t.words.length e1, .slice p2 t.roots.length e2, .int .i64 t.old, .int .i64 t.eden, .int .i64 t.surv, .bool t.flip, .int .i64 t.hash, .slice p3 t.kept.length e3]) rfl rfl (by kernel_rfl) (by kernel_rfl) (by kernel_rfl) (by kernel_rfl) (by rfl) hs (fun W' hSw => (by
        obtain ⟨s0, s1, s2, s3, s4, s5, s6, s7⟩ := va8_cells hSw.row
        go_simp; first | done | with_reducible rfl)) ?_
      simp only [List.setIfInBounds_toArray, List.set_cons_zero, List.set_cons_succ]
      refine Disk.z_take 1 29 (v := .int .i64 i) rfl rfl (by kernel_rfl) (by kernel_rfl) (by kernel_rfl) (by kernel_rfl) (by rfl) hs (fun W' hSw => (by
        obtain ⟨s0, s1, s2, s3, s4, s5, s6, s7⟩ := va8_cells hSw.row
        go_simp; first | done | with_reducible rfl)) ?_
      simp only [List.setIfInBounds_toArray, List.set_cons_zero, List.set_cons_succ]
      refine Disk.z_take 2 30 (v := .pointer (some ⟨N, 0, none⟩)) rfl rfl (by kernel_rfl) (by kernel_rfl) (by kernel_rfl) (by kernel_rfl) (by rfl) hs (fun W' hSw => (by
        obtain ⟨s0, s1, s2, s3, s4, s5, s6, s7⟩ := va8_cells hSw.row
        go_simp; first | done | with_reducible rfl)) ?_
      simp only [List.setIfInBounds_toArray, List.set_cons_zero, List.set_cons_succ]
      refine Disk.z_take 3 31 (v := .agg #[.slice p1 t.words.length e1, .slice p2 t.roots.length e2, .int .i64 t.old, .int .i64 t.eden, .int .i64 t.surv, .bool t.flip, .int .i64 t.hash, .slice p3 t.kept.length e3]) rfl rfl (by kernel_rfl) (by kernel_rfl) (by kernel_rfl) (by kernel_rfl) (by rfl) hs (fun W' hSw => (by
        obtain ⟨s0, s1, s2, s3, s4, s5, s6, s7⟩ := va8_cells hSw.row
        go_simp; first | done | with_reducible rfl)) ?_
      simp only [List.setIfInBounds_toArray, List.set_cons_zero, List.set_cons_succ]
      refine Disk.z_call 4 32 rfl rfl (by kernel_rfl) (by rfl) (f := 53) (args := #[.pointer (some ⟨N, 0, none⟩), .agg #[.slice p1 t.words.length e1, .slice p2 t.roots.length e2, .int .i64 t.old, .int .i64 t.eden, .int .i64 t.surv, .bool t.flip, .int .i64 t.hash, .slice p3 t.kept.length e3]]) (w0 := wd) (by go_simp) ?_
      refine (hs.dw.word7 hs.lt hs.hr (by have := hs.sz; omega) (by have := hs.sz; omega)).mono ?_
      rintro e wq ⟨⟨y, rfl, hy⟩, sq⟩
      have hsq := hs.step sq
      refine ⟨_, rfl, .inr hsq, ?_⟩
      simp only [List.setIfInBounds_toArray, List.set_cons_zero, List.set_cons_succ]
      clear hs sq
      obtain ⟨fR, FR⟩ := hsq.res
      obtain ⟨w9, run9, F9, G9⟩ := store_run wq w.heap.size _ fR FR rfl OKC
      have hs9 := hsq.ans G9 F9
      have ED := hsq.done G9
      refine Disk.z_skip 5 (w' := w9) rfl rfl (by kernel_rfl) (by rfl) (exec_store rfl rfl rfl run9) (.inr hs9) ?_
      refine Disk.z_run 6 3 (v := .int .i64 i) rfl rfl (by kernel_rfl) (by rfl) (w' := w9) (by go_simp; first | done | with_reducible rfl) (.inr hs9) ?_
      simp only [List.setIfInBounds_toArray, List.set_cons_zero, List.set_cons_succ]
      refine Disk.z_run 7 4 (v := .int .i64 y) rfl rfl (by kernel_rfl) (by rfl) (w' := w9) (by go_simp; first | done | with_reducible rfl) (.inr hs9) ?_
      simp only [List.setIfInBounds_toArray, List.set_cons_zero, List.set_cons_succ]
      refine Disk.z_done (by kernel_rfl) ?_ _
      have r0 := F9.cell (i := 0) (by omega); have r1 := F9.cell (i := 1) (by omega); have r2 := F9.cell (i := 2) (by omega); have r3 := F9.cell (i := 3) (by omega); have r4 := F9.cell (i := 4) (by omega); have r5 := F9.cell (i := 5) (by omega); have r6 := F9.cell (i := 6) (by omega); have r7 := F9.cell (i := 7) (by omega)
      have sz9 := hsq.sz
      clear run9 G9 FR hsq hs9 OKC
      go_wp2_with fail
      exact bodyPost_ret (v := .tuple #[.agg #[.slice p1 t.words.length e1, .slice p2 t.roots.length e2, .int .i64 t.old, .int .i64 t.eden, .int .i64 t.surv, .bool t.flip, .int .i64 t.hash, .slice p3 t.kept.length e3], .int .i64 i, .int .i64 y]) (by simp [results, Tryz.results21, go_sem, r0, r1, r2, r3, r4, r5, r6, r7]) rfl ⟨⟨t, _, _, _, i, y, rfl, hi, hy, ED.1, sz9⟩, ED.2⟩
    · refine o_call 5 25 rfl rfl (by rfl) (f := 34) (args := #[.pointer (some ⟨N, 0, none⟩), .int .i64 3]) (w0 := wd) (by go_simp) ?_
      refine (hs.dw.less 3 (by omega) (by omega)).mono ?_
      rintro e wq ⟨⟨z, rfl, zl, zu⟩, gq, dq⟩
      have hsq := hs.step ⟨gq, dq⟩
      refine ⟨_, rfl, .inr hsq, ?_⟩
      simp only [List.setIfInBounds_toArray, List.set_cons_zero, List.set_cons_succ]
      clear hs gq dq
      obtain ⟨wb, gb, ewb, egb, hsb, RB, lgb⟩ : ∃ wb gb, wb = wq.alloc (.cells #[.int .i64 (-1), .int .i64 (t.roots.length : Int), .int .i64 4611686018427387904] 2) ∧ gb = wq.heap.size ∧ AX w w1.heap.size N cv cs H wb t (.slice p1 t.words.length e1) (.slice p2 t.roots.length e2) (.slice p3 t.kept.length e3) ∧ wb.rowIs gb 2 3 (fun i => (#[.int .i64 (-1), .int .i64 (t.roots.length : Int), .int .i64 4611686018427387904] : Array Value)[i]?.getD undef) ∧ N < gb := ⟨_, _, rfl, rfl, hsq.later (bel_one _ _), row_any wq #[.int .i64 (-1), .int .i64 (t.roots.length : Int), .int .i64 4611686018427387904] 2, hsq.lt⟩
      refine Disk.z_run 3 23 (v := .slice (some ⟨gb, 0, none⟩) 3 3) rfl rfl (by kernel_rfl) (by rfl) (w' := wb) (by subst ewb; subst egb; go_simp; first | done | with_reducible rfl) (.inr hsb) ?_
      simp only [List.setIfInBounds_toArray, List.set_cons_zero, List.set_cons_succ]
      clear ewb egb hsq
      obtain ⟨k, rfl⟩ := Int.eq_ofNat_of_zero_le zl
      obtain ⟨i, ck, hi⟩ : ∃ i : Int, wb.cell? ⟨gb, k, none⟩ = some (.int .i64 i) ∧ In64 i := by
        have rl := hsb.sz.2.1
        rcases (show k = 0 ∨ k = 1 ∨ k = 2 from by omega) with rfl | rfl | rfl
        · exact ⟨_, RB.cell (i := 0) (by omega), by unfold In64; omega⟩
        · exact ⟨_, RB.cell (i := 1) (by omega), by unfold In64; omega⟩
        · exact ⟨_, RB.cell (i := 2) (by omega), by unfold In64; omega⟩
      have kl : (k : Int) < 3 := by omega
      clear RB
      refine Disk.z_run 6 26 (v := .pointer (some ⟨gb, k, none⟩)) rfl rfl (by kernel_rfl) (by rfl) (w' := wb) (by go_simp; first | done | with_reducible rfl) (.inr hsb) ?_
      simp only [List.setIfInBounds_toArray, List.set_cons_zero, List.set_cons_succ]
      refine Disk.z_run 7 27 (v := .int .i64 i) rfl rfl (by kernel_rfl) (by rfl) (w' := wb) (by go_simp; first | done | with_reducible rfl) (.inr hsb) ?_
      simp only [List.setIfInBounds_toArray, List.set_cons_zero, List.set_cons_succ]
      refine Disk.z_run 8 7 (v := .int .i64 i) rfl rfl (by kernel_rfl) (by rfl) (w' := wb) (by go_simp; first | done | with_reducible rfl) (.inr hsb) ?_
      simp only [List.setIfInBounds_toArray, List.set_cons_zero, List.set_cons_succ]
      refine Disk.z_done (by kernel_rfl) ?_ _
      clear ck
      have OKC : (#[.slice p1 t.words.length e1, .slice p2 t.roots.length e2, .int .i64 t.old, .int .i64 t.eden, .int .i64 t.surv, .bool t.flip, .int .i64 t.hash, .slice p3 t.kept.length e3] : Array Value).all (·.oneCell') = true := by simp [Value.oneCell']
      have hs0 : AX w w1.heap.size N cv cs H wb.drew t _ _ _ := hsb.step (Sx.refl hsb.dw).drew
      go_wp2_with fail
      refine Disk.z_plain 99 (fun W' => AX w w1.heap.size N cv cs H W' t (.slice p1 t.words.length e1) (.slice p2 t.roots.length e2) (.slice p3 t.kept.length e3)) hmx hs0 (fun hs => ?_)
      clear hs0
      generalize wb.drew = wd at hs ⊢
      refine Disk.z_take 0 28 (v := .agg #[.slice p1 t.words.length e1, .slice p2 t.roots.length e2, .int .i64 t.old, .int .i64 t.eden, .int .i64 t.surv, .bool t.flip, .int .i64 t.hash, .slice p3 t.kept.length e3]) rfl rfl (by kernel_rfl) (by kernel_rfl) (by kernel_rfl) (by kernel_rfl) (by rfl) hs (fun W' hSw => (by
        obtain ⟨s0, s1, s2, s3, s4, s5, s6, s7⟩ := va8_cells hSw.row
        go_simp; first | done | with_reducible rfl)) ?_
      simp only [List.setIfInBounds_toArray, List.set_cons_zero, List.set_cons_succ]
      refine Disk.z_take 1 29 (v := .int .i64 i) rfl rfl (by kernel_rfl) (by kernel_rfl) (by kernel_rfl) (by kernel_rfl) (by rfl) hs (fun W' hSw => (by
        obtain ⟨s0, s1, s2, s3, s4, s5, s6, s7⟩ := va8_cells hSw.row
        go_simp; first | done | with_reducible rfl)) ?_
      simp only [List.setIfInBounds_toArray, List.set_cons_zero, List.set_cons_succ]
      refine Disk.z_take 2 30 (v := .pointer (some ⟨N, 0, none⟩)) rfl rfl (by kernel_rfl) (by kernel_rfl) (by kernel_rfl) (by kernel_rfl) (by rfl) hs (fun W' hSw => (by
        obtain ⟨s0, s1, s2, s3, s4, s5, s6, s7⟩ := va8_cells hSw.row
        go_simp; first | done | with_reducible rfl)) ?_
      simp only [List.setIfInBounds_toArray, List.set_cons_zero, List.set_cons_succ]
      refine Disk.z_take 3 31 (v := .agg #[.slice p1 t.words.length e1, .slice p2 t.roots.length e2, .int .i64 t.old, .int .i64 t.eden, .int .i64 t.surv, .bool t.flip, .int .i64 t.hash, .slice p3 t.kept.length e3]) rfl rfl (by kernel_rfl) (by kernel_rfl) (by kernel_rfl) (by kernel_rfl) (by rfl) hs (fun W' hSw => (by
        obtain ⟨s0, s1, s2, s3, s4, s5, s6, s7⟩ := va8_cells hSw.row
        go_simp; first | done | with_reducible rfl)) ?_
      simp only [List.setIfInBounds_toArray, List.set_cons_zero, List.set_cons_succ]
      refine Disk.z_call 4 32 rfl rfl (by kernel_rfl) (by rfl) (f := 53) (args := #[.pointer (some ⟨N, 0, none⟩), .agg #[.slice p1 t.words.length e1, .slice p2 t.roots.length e2, .int .i64 t.old, .int .i64 t.eden, .int .i64 t.surv, .bool t.flip, .int .i64 t.hash, .slice p3 t.kept.length e3]]) (w0 := wd) (by go_simp) ?_
      refine (hs.dw.word7 hs.lt hs.hr (by have := hs.sz; omega) (by have := hs.sz; omega)).mono ?_
      rintro e wq ⟨⟨y, rfl, hy⟩, sq⟩
      have hsq := hs.step sq
      refine ⟨_, rfl, .inr hsq, ?_⟩
      simp only [List.setIfInBounds_toArray, List.set_cons_zero, List.set_cons_succ]
      clear hs sq
      obtain ⟨fR, FR⟩ := hsq.res
      obtain ⟨w9, run9, F9, G9⟩ := store_run wq w.heap.size _ fR FR rfl OKC
      have hs9 := hsq.ans G9 F9
      have ED := hsq.done G9
      refine Disk.z_skip 5 (w' := w9) rfl rfl (by kernel_rfl) (by rfl) (exec_store rfl rfl rfl run9) (.inr hs9) ?_
      refine Disk.z_run 6 3 (v := .int .i64 i) rfl rfl (by kernel_rfl) (by rfl) (w' := w9) (by go_simp; first | done | with_reducible rfl) (.inr hs9) ?_
      simp only [List.setIfInBounds_toArray, List.set_cons_zero, List.set_cons_succ]
      refine Disk.z_run 7 4 (v := .int .i64 y) rfl rfl (by kernel_rfl) (by rfl) (w' := w9) (by go_simp; first | done | with_reducible rfl) (.inr hs9) ?_
      simp only [List.setIfInBounds_toArray, List.set_cons_zero, List.set_cons_succ]
      refine Disk.z_done (by kernel_rfl) ?_ _
      have r0 := F9.cell (i := 0) (by omega); have r1 := F9.cell (i := 1) (by omega); have r2 := F9.cell (i := 2) (by omega); have r3 := F9.cell (i := 3) (by omega); have r4 := F9.cell (i := 4) (by omega); have r5 := F9.cell (i := 5) (by omega); have r6 := F9.cell (i := 6) (by omega); have r7 := F9.cell (i := 7) (by omega)
      have sz9 := hsq.sz
      clear run9 G9 FR hsq hs9 OKC
      go_wp2_with fail
      exact bodyPost_ret (v := .tuple #[.agg #[.slice p1 t.words.length e1, .slice p2 t.roots.length e2, .int .i64 t.old, .int .i64 t.eden, .int .i64 t.surv, .bool t.flip, .int .i64 t.hash, .slice p3 t.kept.length e3], .int .i64 i, .int .i64 y]) (by simp [results, Tryz.results21, go_sem, r0, r1, r2, r3, r4, r5, r6, r7]) rfl ⟨⟨t, _, _, _, i, y, rfl, hi, hy, ED.1, sz9⟩, ED.2⟩

end Go.Proofs.YtphkmgalgngjiaaGreat
