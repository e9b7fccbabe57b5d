
import Derived.Test.YtklafifiphbibaaGreatZV11
import Derived.Test.YtklafifiphbibaaGreatZLAny
import Derived.Test.YtklafifiphbibaaGreatZV5
import Derived.Test.YtklafifiphbibaaGreatZV8
/- The draw DrawGet of the model. -/
namespace Go.Proofs.YtklafifiphbibaaGreat
open Go.RowKit

set_option maxRecDepth 100000 in
set_option maxHeartbeats 3200000 in
theorem drawGet_any (cv : Value) (cs : List UInt8) (w : World) (hc : BR w cv cs) (hn : cs.length ≤ 4096) :
    Calls Tryz.prog 21 #[cv] w fun x w' => (∃ t v1 v2 v3 y i, x = .returned (.tuple #[.agg #[v1, v2, .int .i64 t.old, .int .i64 t.eden, .int .i64 t.surv, .bool t.flip, .int .i64 t.hash, v3], .int .i64 y, .int .i64 i]) ∧ In64 y ∧ In64 i ∧ HA w.heap.size w' t v1 v2 v3 ∧ t.words.length ≤ 3200 ∧ t.roots.length ≤ 21 ∧ t.kept.length ≤ 3201) ∧ Below w.heap.size w w' := by
  have h0 := bel_one w (.cells #[.slice none 0 0, .slice none 0 0, .int .i64 0, .int .i64 0, .int .i64 0, .bool false, .int .i64 0, .slice none 0 0] 26)
  have R0 := row_any w #[.slice none 0 0, .slice none 0 0, .int .i64 0, .int .i64 0, .int .i64 0, .bool false, .int .i64 0, .slice none 0 0] 26
  have NW := l1New_any cv cs _ (hc.later h0) hn
  have z0 : (w.alloc (.cells #[.slice none 0 0, .slice none 0 0, .int .i64 0, .int .i64 0, .int .i64 0, .bool false, .int .i64 0, .slice none 0 0] 26)).heap.size = w.heap.size + 1 := by simp
  have hmx : Tryz.prog.follows .mixedOrders = true := by kernel_rfl
  go_enter Tryz.func21, Tryz.ntmps21
  go_wp2_with fail
  refine NW.mono ?_
  rintro x w1 ⟨N, rfl, hN, hN1, hb1, d1⟩
  clear NW
  rw [z0] at hN
  have R1 := World.rowIs.of_block R0 (hb1.block _ (by rw [z0]; omega))
  have hbw1 := bel_after h0 hb1
  clear h0 hb1 z0 R0
  go_wp2_with fail
  refine (d1.any hN1).mono ?_
  rintro x w2 ⟨⟨t, v1, v2, v3, rfl, ha, sz⟩, g2, d2⟩
  obtain ⟨p1, e1, rfl, -⟩ := IRs ha.w1
  obtain ⟨p2, e2, rfl, -⟩ := IRs (IR_of_owns ha.o2)
  obtain ⟨p3, e3, rfl, -⟩ := IRs (IR_of_owns ha.o3)
  have K2 := AX.new hc hbw1 R1 (by omega) hN1 g2 d2 ha sz
  clear ha g2 d2 R1 d1 hbw1
  obtain ⟨c0, c1, c2, c3, c4, c5, c6, c7⟩ := va8_cells K2.row
  have LS := K2.dw.word7 K2.lt K2.hr (by omega) (by omega)
  go_wp2_with fail
  refine LS.mono ?_
  rintro x w3 ⟨⟨y, rfl, hy⟩, s3⟩
  have K3 := K2.step s3
  generalize w2.heap.size = H at *
  clear K2 s3 LS c0 c1 c2 c3 c4 c5 c6 c7
  go_wp2_with fail
  refine (K3.dw.less 6 (by omega) (by omega)).mono ?_
  rintro x w4 ⟨⟨i, rfl, i0, i1⟩, g4, d4⟩
  have K4 := K3.step ⟨g4, d4⟩
  have hi : In64 i := by unfold In64; omega
  clear K3 g4 d4 i0 i1
  go_wp2_with fail
  refine (K4.dw.once 12 (by omega) (by omega)).mono ?_
  rintro x w5 ⟨⟨bo, rfl⟩, g5, d5⟩
  have K5 := K4.step ⟨g5, d5⟩
  clear K4 g5 d5
  cases bo
  · skip
    have OKC : (#[.slice p1 t.words.length e1, .slice p2 t.roots.length e2, .int .i64 t.old, .int .i64 t.eden, .int .i64 t.surv, .bool t.flip, .int .i64 t.hash, .slice p3 t.kept.length e3] : Array Value).all (·.oneCell') = true := by simp [Value.oneCell']
    obtain ⟨fR, FR⟩ := K5.res
    obtain ⟨c0, c1, c2, c3, c4, c5, c6, c7⟩ := va8_cells K5.row
    have ED := fun W' (q : World.grownBy _ W' _) => K5.done q
    go_wp2_with ((with_reducible refine store_box _ ?_ (.tmp 2) (.tmp 25) 26 ?_ 26 w.heap.size 8 #[.slice p1 t.words.length e1, .slice p2 t.roots.length e2, .int .i64 t.old, .int .i64 t.eden, .int .i64 t.surv, .bool t.flip, .int .i64 t.hash, .slice p3 t.kept.length e3] _ ?_ ?_ FR ?_ ?_ OKC ?_); rfl; rfl; rfl; rfl; rfl; kernel_rfl; intro w9 F9 G9)
    have r0 := F9.cell (i := 0) (by omega); have r1 := F9.cell (i := 1) (by omega); have r2 := F9.cell (i := 2) (by omega); have r3 := F9.cell (i := 3) (by omega); have r4 := F9.cell (i := 4) (by omega); have r5 := F9.cell (i := 5) (by omega); have r6 := F9.cell (i := 6) (by omega); have r7 := F9.cell (i := 7) (by omega)
    exact bodyPost_ret (v := .tuple #[.agg #[.slice p1 t.words.length e1, .slice p2 t.roots.length e2, .int .i64 t.old, .int .i64 t.eden, .int .i64 t.surv, .bool t.flip, .int .i64 t.hash, .slice p3 t.kept.length e3], .int .i64 y, .int .i64 i]) (by simp [results, Tryz.results21, go_sem, r0, r1, r2, r3, r4, r5, r6, r7]) rfl ⟨⟨t, _, _, _, y, i, rfl, hy, hi, (ED _ G9).1, K5.sz⟩, (ED _ G9).2⟩
  · clear hi
    have al6 := bel_one w5 (.cells #[.int .i64 (-1), .int .i64 60, .int .i64 4611686018427387904] 2)
    have Ka6 := K5.later al6
    have lt6 := K5.lt
    go_wp2_with fail
    refine (Ka6.dw.less 3 (by omega) (by omega)).mono ?_
    rintro x w5l ⟨⟨z, rfl, zl, zu⟩, gl, dl⟩
    obtain ⟨k6, rfl⟩ := Int.eq_ofNat_of_zero_le zl
    obtain ⟨i', ck6, hi6⟩ := lit_at _ (by rfl) gl lt6 k6 (by simp; omega)
    have kl6 : (k6 : Int) < 3 := by omega
    have K7 := Ka6.step ⟨gl, dl⟩
    clear gl dl Ka6 al6
    have OKC : (#[.slice p1 t.words.length e1, .slice p2 t.roots.length e2, .int .i64 t.old, .int .i64 t.eden, .int .i64 t.surv, .bool t.flip, .int .i64 t.hash, .slice p3 t.kept.length e3] : Array Value).all (·.oneCell') = true := by simp [Value.oneCell']
    obtain ⟨fR, FR⟩ := K7.res
    obtain ⟨c0, c1, c2, c3, c4, c5, c6, c7⟩ := va8_cells K7.row
    have ED := fun W' (q : World.grownBy _ W' _) => K7.done q
    go_wp2_with ((with_reducible refine store_box _ ?_ (.tmp 2) (.tmp 25) 26 ?_ 26 w.heap.size 8 #[.slice p1 t.words.length e1, .slice p2 t.roots.length e2, .int .i64 t.old, .int .i64 t.eden, .int .i64 t.surv, .bool t.flip, .int .i64 t.hash, .slice p3 t.kept.length e3] _ ?_ ?_ FR ?_ ?_ OKC ?_); rfl; rfl; rfl; rfl; rfl; kernel_rfl; intro w9 F9 G9)
    have r0 := F9.cell (i := 0) (by omega); have r1 := F9.cell (i := 1) (by omega); have r2 := F9.cell (i := 2) (by omega); have r3 := F9.cell (i := 3) (by omega); have r4 := F9.cell (i := 4) (by omega); have r5 := F9.cell (i := 5) (by omega); have r6 := F9.cell (i := 6) (by omega); have r7 := F9.cell (i := 7) (by omega)
    exact bodyPost_ret (v := .tuple #[.agg #[.slice p1 t.words.length e1, .slice p2 t.roots.length e2, .int .i64 t.old, .int .i64 t.eden, .int .i64 t.surv, .bool t.flip, .int .i64 t.hash, .slice p3 t.kept.length e3], .int .i64 y, .int .i64 i']) (by simp [results, Tryz.results21, go_sem, r0, r1, r2, r3, r4, r5, r6, r7]) rfl ⟨⟨t, _, _, _, y, i', rfl, hy, hi6, (ED _ G9).1, K7.sz⟩, (ED _ G9).2⟩

end Go.Proofs.YtklafifiphbibaaGreat

/- The draw DrawSet of the model. -/
namespace Go.Proofs.YtklafifiphbibaaGreat
open Go.RowKit

set_option maxRecDepth 100000 in
set_option maxHeartbeats 3200000 in
theorem drawSet_any (cv : Value) (cs : List UInt8) (w : World) (hc : BR w cv cs) (hn : cs.length ≤ 4096) :
    Calls Tryz.prog 6 #[cv] w fun x w' => (∃ t v1 v2 v3 y i z, x = .returned (.tuple #[.agg #[v1, v2, .int .i64 t.old, .int .i64 t.eden, .int .i64 t.surv, .bool t.flip, .int .i64 t.hash, v3], .int .i64 y, .int .i64 i, .int .i64 z]) ∧ In64 y ∧ In64 i ∧ In64 z ∧ HA w.heap.size w' t v1 v2 v3 ∧ t.words.length ≤ 3200 ∧ t.roots.length ≤ 21 ∧ t.kept.length ≤ 3201) ∧ Below w.heap.size w w' := by
  have h0 := bel_one w (.cells #[.slice none 0 0, .slice none 0 0, .int .i64 0, .int .i64 0, .int .i64 0, .bool false, .int .i64 0, .slice none 0 0] 26)
  have R0 := row_any w #[.slice none 0 0, .slice none 0 0, .int .i64 0, .int .i64 0, .int .i64 0, .bool false, .int .i64 0, .slice none 0 0] 26
  have NW := l1New_any cv cs _ (hc.later h0) hn
  have z0 : (w.alloc (.cells #[.slice none 0 0, .slice none 0 0, .int .i64 0, .int .i64 0, .int .i64 0, .bool false, .int .i64 0, .slice none 0 0] 26)).heap.size = w.heap.size + 1 := by simp
  have hmx : Tryz.prog.follows .mixedOrders = true := by kernel_rfl
  go_enter Tryz.func6, Tryz.ntmps6
  go_wp2_with fail
  refine NW.mono ?_
  rintro x w1 ⟨N, rfl, hN, hN1, hb1, d1⟩
  clear NW
  rw [z0] at hN
  have R1 := World.rowIs.of_block R0 (hb1.block _ (by rw [z0]; omega))
  have hbw1 := bel_after h0 hb1
  clear h0 hb1 z0 R0
  have DG := drawGet_any cv cs w1 (hc.later hbw1) hn
  go_wp2_with fail
  refine DG.mono ?_
  rintro x w2 ⟨⟨t, v1, v2, v3, y0, i, rfl, hy0, hi, ha, sz⟩, hb2⟩
  clear DG
  have d2 := d1.more hb2 hN1
  have g2 : w1.grownBy w2 (some N) := ⟨hb2.os, hb2.tape, hb2.output, hb2.size, fun k hk _ => hb2.block k hk⟩
  obtain ⟨p1, e1, rfl, -⟩ := IRs ha.w1
  obtain ⟨p2, e2, rfl, -⟩ := IRs (IR_of_owns ha.o2)
  obtain ⟨p3, e3, rfl, -⟩ := IRs (IR_of_owns ha.o3)
  have K2 := AX.new hc hbw1 R1 (by omega) hN1 g2 d2 ha sz
  clear ha g2 d2 R1 d1 hbw1
  have OKC : (#[.slice p1 t.words.length e1, .slice p2 t.roots.length e2, .int .i64 t.old, .int .i64 t.eden, .int .i64 t.surv, .bool t.flip, .int .i64 t.hash, .slice p3 t.kept.length e3] : Array Value).all (·.oneCell') = true := by simp [Value.oneCell']
  have hs0 : AX w w1.heap.size N cv cs w2.heap.size (w2.alloc (.cells #[.slice p1 t.words.length e1, .slice p2 t.roots.length e2, .int .i64 t.old, .int .i64 t.eden, .int .i64 t.surv, .bool t.flip, .int .i64 t.hash, .slice p3 t.kept.length e3] 26)).drew t _ _ _ := K2.step (Sx.refl K2.dw).drew
  go_wp2_with fail
  refine Disk.z_plain 99 (fun W' => AX w w1.heap.size N cv cs w2.heap.size W' t (.slice p1 t.words.length e1) (.slice p2 t.roots.length e2) (.slice p3 t.kept.length e3)) hmx hs0 (fun hs => ?_)
  clear hs0
  generalize (w2.alloc (.cells #[.slice p1 t.words.length e1, .slice p2 t.roots.length e2, .int .i64 t.old, .int .i64 t.eden, .int .i64 t.surv, .bool t.flip, .int .i64 t.hash, .slice p3 t.kept.length e3] 26)).drew = wd at hs ⊢
  refine Disk.z_take 0 18 (v := .agg #[.slice p1 t.words.length e1, .slice p2 t.roots.length e2, .int .i64 t.old, .int .i64 t.eden, .int .i64 t.surv, .bool t.flip, .int .i64 t.hash, .slice p3 t.kept.length e3]) rfl rfl (by kernel_rfl) (by kernel_rfl) (by kernel_rfl) (by kernel_rfl) (by rfl) hs (fun W' hSw => (by
    obtain ⟨s0, s1, s2, s3, s4, s5, s6, s7⟩ := va8_cells hSw.row
    go_simp; first | done | with_reducible rfl)) ?_
  simp only [List.setIfInBounds_toArray, List.set_cons_zero, List.set_cons_succ]
  refine Disk.z_take 1 19 (v := .int .i64 y0) rfl rfl (by kernel_rfl) (by kernel_rfl) (by kernel_rfl) (by kernel_rfl) (by rfl) hs (fun W' hSw => (by
    obtain ⟨s0, s1, s2, s3, s4, s5, s6, s7⟩ := va8_cells hSw.row
    go_simp; first | done | with_reducible rfl)) ?_
  simp only [List.setIfInBounds_toArray, List.set_cons_zero, List.set_cons_succ]
  refine Disk.z_take 2 20 (v := .int .i64 i) rfl rfl (by kernel_rfl) (by kernel_rfl) (by kernel_rfl) (by kernel_rfl) (by rfl) hs (fun W' hSw => (by
    obtain ⟨s0, s1, s2, s3, s4, s5, s6, s7⟩ := va8_cells hSw.row
    go_simp; first | done | with_reducible rfl)) ?_
  simp only [List.setIfInBounds_toArray, List.set_cons_zero, List.set_cons_succ]
  refine Disk.z_take 3 21 (v := .pointer (some ⟨N, 0, none⟩)) rfl rfl (by kernel_rfl) (by kernel_rfl) (by kernel_rfl) (by kernel_rfl) (by rfl) hs (fun W' hSw => (by
    obtain ⟨s0, s1, s2, s3, s4, s5, s6, s7⟩ := va8_cells hSw.row
    go_simp; first | done | with_reducible rfl)) ?_
  simp only [List.setIfInBounds_toArray, List.set_cons_zero, List.set_cons_succ]
  refine Disk.z_take 4 22 (v := .agg #[.slice p1 t.words.length e1, .slice p2 t.roots.length e2, .int .i64 t.old, .int .i64 t.eden, .int .i64 t.surv, .bool t.flip, .int .i64 t.hash, .slice p3 t.kept.length e3]) rfl rfl (by kernel_rfl) (by kernel_rfl) (by kernel_rfl) (by kernel_rfl) (by rfl) hs (fun W' hSw => (by
    obtain ⟨s0, s1, s2, s3, s4, s5, s6, s7⟩ := va8_cells hSw.row
    go_simp; first | done | with_reducible rfl)) ?_
  simp only [List.setIfInBounds_toArray, List.set_cons_zero, List.set_cons_succ]
  refine Disk.z_call 5 23 rfl rfl (by kernel_rfl) (by rfl) (f := 22) (args := #[.pointer (some ⟨N, 0, none⟩), .agg #[.slice p1 t.words.length e1, .slice p2 t.roots.length e2, .int .i64 t.old, .int .i64 t.eden, .int .i64 t.surv, .bool t.flip, .int .i64 t.hash, .slice p3 t.kept.length e3]]) (w0 := wd) (by go_simp) ?_
  refine (hs.dw.word7 hs.lt hs.hr (by have := hs.sz; omega) (by have := hs.sz; omega)).mono ?_
  rintro e wq ⟨⟨y, rfl, hy⟩, sq⟩
  have hsq := hs.step sq
  refine ⟨_, rfl, .inr hsq, ?_⟩
  simp only [List.setIfInBounds_toArray, List.set_cons_zero, List.set_cons_succ]
  clear hs sq
  obtain ⟨fR, FR⟩ := hsq.res
  obtain ⟨w9, run9, F9, G9⟩ := store_run wq w.heap.size _ fR FR rfl OKC
  have hs9 := hsq.ans G9 F9
  have ED := hsq.done G9
  refine Disk.z_skip 6 (w' := w9) rfl rfl (by kernel_rfl) (by rfl) (exec_store rfl rfl rfl run9) (.inr hs9) ?_
  refine Disk.z_run 7 3 (v := .int .i64 y0) rfl rfl (by kernel_rfl) (by rfl) (w' := w9) (by go_simp; first | done | with_reducible rfl) (.inr hs9) ?_
  simp only [List.setIfInBounds_toArray, List.set_cons_zero, List.set_cons_succ]
  refine Disk.z_run 8 4 (v := .int .i64 i) rfl rfl (by kernel_rfl) (by rfl) (w' := w9) (by go_simp; first | done | with_reducible rfl) (.inr hs9) ?_
  simp only [List.setIfInBounds_toArray, List.set_cons_zero, List.set_cons_succ]
  refine Disk.z_run 9 5 (v := .int .i64 y) rfl rfl (by kernel_rfl) (by rfl) (w' := w9) (by go_simp; first | done | with_reducible rfl) (.inr hs9) ?_
  simp only [List.setIfInBounds_toArray, List.set_cons_zero, List.set_cons_succ]
  refine Disk.z_done (by kernel_rfl) ?_ _
  have r0 := F9.cell (i := 0) (by omega); have r1 := F9.cell (i := 1) (by omega); have r2 := F9.cell (i := 2) (by omega); have r3 := F9.cell (i := 3) (by omega); have r4 := F9.cell (i := 4) (by omega); have r5 := F9.cell (i := 5) (by omega); have r6 := F9.cell (i := 6) (by omega); have r7 := F9.cell (i := 7) (by omega)
  have sz9 := hsq.sz
  clear run9 G9 FR hsq hs9 OKC
  go_wp2_with fail
  exact bodyPost_ret (v := .tuple #[.agg #[.slice p1 t.words.length e1, .slice p2 t.roots.length e2, .int .i64 t.old, .int .i64 t.eden, .int .i64 t.surv, .bool t.flip, .int .i64 t.hash, .slice p3 t.kept.length e3], .int .i64 y0, .int .i64 i, .int .i64 y]) (by simp [results, Tryz.results6, go_sem, r0, r1, r2, r3, r4, r5, r6, r7]) rfl ⟨⟨t, _, _, _, y0, i, y, rfl, hy0, hi, hy, ED.1, sz9⟩, ED.2⟩

end Go.Proofs.YtklafifiphbibaaGreat

/- Theory of FnHeaps: the headers of a right heap, the sum of its objects' sizes, a new heap is right; likeInts. -/
namespace Go.Proofs.YtklafifiphbibaaGreat
open Go.RowKit

theorem rise {l : List Nat} (so : l.Pairwise (· < ·)) {k : Nat} (h : k + 1 < l.length) : l.getD k 0 < l.getD (k + 1) 0 := by
  have := List.pairwise_iff_getElem.1 so k (k + 1) (by omega) h (by omega)
  simpa [List.getD_eq_getElem?_getD, List.getElem?_eq_getElem h, List.getElem?_eq_getElem (show k < l.length by omega)] using this
set_option maxHeartbeats 400000 in
theorem likeInts_any (v u : Value) (ss : List Int) (w : World) (hv : IR w v ss) (hu : IR w u ss) (h1 : ss.length ≤ 1000000000000000) :
    Calls Tryz.prog 33 #[v, u] w fun e w' => e = .returned (.bool true) ∧ Below w.heap.size w w' := by
  obtain ⟨ao, cap, rfl, _, hv⟩ := hv
  obtain ⟨bo, cbp, rfl, _, hu⟩ := hu
  have hl' : ((ss.length : Int) != (ss.length : Int)) = false := by simp
  go_enter Tryz.func33, Tryz.ntmps33
  go_wp2
  go_loopw [5] (fun a wr => ∃ (k : Nat), a = .int .i64 k ∧ k ≤ ss.length ∧ ∃ n, wr = w.drewN n) (fun a _ => (ss.length - (intOf a).toNat))
  case atStart => exact ⟨0, rfl, Nat.zero_le _, 0, rfl⟩
  case round =>
    obtain ⟨k, rfl, hk, n, rfl⟩ := hrel
    by_cases hlt : k < ss.length
    · obtain ⟨b, o, rfl, hc⟩ := hv k hlt
      obtain ⟨b', o', rfl, hc'⟩ := hu k hlt
      generalize ss.getD k 0 = s at *
      have he : (s != s) = false := by simp
      clear hv hu
      go_wp2
      go_region
      all_goals go_wp2
      all_goals go_roundw
      case rel => exact ⟨k + 1, by go_num, by omega, _, rfl⟩
      case measure => simp [intOf]; omega
    · go_wp2
      go_ret
      exact ⟨rfl, below_drewN (Below.refl _ _) _⟩

end Go.Proofs.YtklafifiphbibaaGreat
