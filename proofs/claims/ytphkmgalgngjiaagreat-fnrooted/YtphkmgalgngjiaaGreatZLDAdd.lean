/- The draw DrawAddRoot of the model. -/
import Derived.Test.YtphkmgalgngjiaaGreatZN12
import Derived.Test.YtphkmgalgngjiaaGreatZLAny
namespace Go.Proofs.YtphkmgalgngjiaaGreat
open Go.RowKit

def rtOf (H : Nat) (w : World) : Nat := match w.cell? ⟨H, 1, none⟩ with
  | some (.slice _ n _) => n
  | _ => 0
theorem rtOf_eq {H : Nat} {w : World} {a : Option Addr} {n c : Nat} (h : w.cell? ⟨H, 1, none⟩ = some (.slice a n c)) : rtOf H w = n := by
  unfold rtOf
  rw [h]

set_option maxRecDepth 100000 in
set_option maxHeartbeats 6400000 in
theorem drawAddRoot_any (cv : Value) (cs : List UInt8) (w : World) (hc : BR w cv cs) (hn : cs.length ≤ 4096) :
    Calls Tryz.prog 18 #[cv] w fun x w' => (∃ t v1 v2 v3 y, x = .returned (.tuple #[.agg #[v1, v2, .int .i64 t.old, .int .i64 t.eden, .int .i64 t.surv, .bool t.flip, .int .i64 t.hash, v3], .int .i64 y]) ∧ In64 y ∧ HA w.heap.size w' t v1 v2 v3 ∧ t.words.length ≤ 3200 ∧ t.roots.length ≤ 21 ∧ t.kept.length ≤ 3201) ∧ Below w.heap.size w w' := by
  have h0 := bel_one w (.cells #[.slice none 0 0, .slice none 0 0, .int .i64 0, .int .i64 0, .int .i64 0, .bool false, .int .i64 0, .slice none 0 0] 26)
  have R0 := row_any w #[.slice none 0 0, .slice none 0 0, .int .i64 0, .int .i64 0, .int .i64 0, .bool false, .int .i64 0, .slice none 0 0] 26
  have NW := l1New_any cv cs _ (hc.later h0) hn
  have z0 : (w.alloc (.cells #[.slice none 0 0, .slice none 0 0, .int .i64 0, .int .i64 0, .int .i64 0, .bool false, .int .i64 0, .slice none 0 0] 26)).heap.size = w.heap.size + 1 := by simp
  have hmx : Tryz.prog.follows .mixedOrders = true := by kernel_rfl
  go_enter Tryz.func18, Tryz.ntmps18
  go_wp2_with fail
  refine NW.mono ?_
  rintro x w1 ⟨N, rfl, hN, hN1, hb1, d1⟩
  clear NW
  rw [z0] at hN
  have R1 := World.rowIs.of_block R0 (hb1.block _ (by rw [z0]; omega))
  have hbw1 := bel_after h0 hb1
  clear h0 hb1 z0 R0
  go_wp2_with fail
  refine (d1.any hN1).mono ?_
  rintro x w2 ⟨⟨t, v1, v2, v3, rfl, ha, sz⟩, g2, d2⟩
  obtain ⟨p1, e1, rfl, -⟩ := IRs ha.w1
  obtain ⟨p2, e2, rfl, -⟩ := IRs (IR_of_owns ha.o2)
  obtain ⟨p3, e3, rfl, -⟩ := IRs (IR_of_owns ha.o3)
  have K2 := AX.new hc hbw1 R1 (by omega) hN1 g2 d2 ha sz
  clear ha g2 d2 R1 d1 hbw1
  go_wp2_with fail
  refine (K2.dw.once 12 (by omega) (by omega)).mono ?_
  rintro x w3 ⟨⟨bo, rfl⟩, g3, d3⟩
  have K3 := K2.step ⟨g3, d3⟩
  generalize w2.heap.size = H at *
  clear K2 g3 d3
  obtain ⟨c0, c1, c2, c3, c4, c5, c6, c7⟩ := va8_cells K3.row
  cases bo
  · clear c0 c1 c2 c3 c4 c5 c6 c7
    have OKC : (#[.slice p1 t.words.length e1, .slice p2 t.roots.length e2, .int .i64 t.old, .int .i64 t.eden, .int .i64 t.surv, .bool t.flip, .int .i64 t.hash, .slice p3 t.kept.length e3] : Array Value).all (·.oneCell') = true := by simp [Value.oneCell']
    have hs0 : AX w w1.heap.size N cv cs H w3.drew t _ _ _ := K3.step (Sx.refl K3.dw).drew
    go_wp2_with fail
    refine Disk.z_plain 99 (fun W' => AX w w1.heap.size N cv cs H W' t (.slice p1 t.words.length e1) (.slice p2 t.roots.length e2) (.slice p3 t.kept.length e3)) hmx hs0 (fun hs => ?_)
    clear hs0
    generalize w3.drew = wd at hs ⊢
    refine Disk.z_take 0 28 (v := .agg #[.slice p1 t.words.length e1, .slice p2 t.roots.length e2, .int .i64 t.old, .int .i64 t.eden, .int .i64 t.surv, .bool t.flip, .int .i64 t.hash, .slice p3 t.kept.length e3]) rfl rfl (by kernel_rfl) (by kernel_rfl) (by kernel_rfl) (by kernel_rfl) (by rfl) hs (fun W' hSw => (by
      obtain ⟨s0, s1, s2, s3, s4, s5, s6, s7⟩ := va8_cells hSw.row
      go_simp; first | done | with_reducible rfl)) ?_
    simp only [List.setIfInBounds_toArray, List.set_cons_zero, List.set_cons_succ]
    refine Disk.z_take 1 29 (v := .pointer (some ⟨N, 0, none⟩)) rfl rfl (by kernel_rfl) (by kernel_rfl) (by kernel_rfl) (by kernel_rfl) (by rfl) hs (fun W' hSw => (by
      obtain ⟨s0, s1, s2, s3, s4, s5, s6, s7⟩ := va8_cells hSw.row
      go_simp; first | done | with_reducible rfl)) ?_
    simp only [List.setIfInBounds_toArray, List.set_cons_zero, List.set_cons_succ]
    refine Disk.z_take 2 30 (v := .agg #[.slice p1 t.words.length e1, .slice p2 t.roots.length e2, .int .i64 t.old, .int .i64 t.eden, .int .i64 t.surv, .bool t.flip, .int .i64 t.hash, .slice p3 t.kept.length e3]) rfl rfl (by kernel_rfl) (by kernel_rfl) (by kernel_rfl) (by kernel_rfl) (by rfl) hs (fun W' hSw => (by
      obtain ⟨s0, s1, s2, s3, s4, s5, s6, s7⟩ := va8_cells hSw.row
      go_simp; first | done | with_reducible rfl)) ?_
    simp only [List.setIfInBounds_toArray, List.set_cons_zero, List.set_cons_succ]
    refine Disk.z_call 3 31 rfl rfl (by kernel_rfl) (by rfl) (f := 53) (args := #[.pointer (some ⟨N, 0, none⟩), .agg #[.slice p1 t.words.length e1, .slice p2 t.roots.length e2, .int .i64 t.old, .int .i64 t.eden, .int .i64 t.surv, .bool t.flip, .int .i64 t.hash, .slice p3 t.kept.length e3]]) (w0 := wd) (by go_simp) ?_
    refine (hs.dw.word7 hs.lt hs.hr (by have := hs.sz; omega) (by have := hs.sz; omega)).mono ?_
    rintro e wq ⟨⟨y, rfl, hy⟩, sq⟩
    have hsq := hs.step sq
    refine ⟨_, rfl, .inr hsq, ?_⟩
    simp only [List.setIfInBounds_toArray, List.set_cons_zero, List.set_cons_succ]
    clear hs sq
    obtain ⟨fR, FR⟩ := hsq.res
    obtain ⟨w9, run9, F9, G9⟩ := store_run wq w.heap.size _ fR FR rfl OKC
    have hs9 := hsq.ans G9 F9
    have ED := hsq.done G9
    refine Disk.z_skip 4 (w' := w9) rfl rfl (by kernel_rfl) (by rfl) (exec_store rfl rfl rfl run9) (.inr hs9) ?_
    refine Disk.z_run 5 3 (v := .int .i64 y) rfl rfl (by kernel_rfl) (by rfl) (w' := w9) (by go_simp; first | done | with_reducible rfl) (.inr hs9) ?_
    simp only [List.setIfInBounds_toArray, List.set_cons_zero, List.set_cons_succ]
    refine Disk.z_done (by kernel_rfl) ?_ _
    have r0 := F9.cell (i := 0) (by omega); have r1 := F9.cell (i := 1) (by omega); have r2 := F9.cell (i := 2) (by omega); have r3 := F9.cell (i := 3) (by omega); have r4 := F9.cell (i := 4) (by omega); have r5 := F9.cell (i := 5) (by omega); have r6 := F9.cell (i := 6) (by omega); have r7 := F9.cell (i := 7) (by omega)
    have sz9 := hsq.sz
    clear run9 G9 FR hsq hs9 OKC
    go_wp2_with fail
    exact bodyPost_ret (v := .tuple #[.agg #[.slice p1 t.words.length e1, .slice p2 t.roots.length e2, .int .i64 t.old, .int .i64 t.eden, .int .i64 t.surv, .bool t.flip, .int .i64 t.hash, .slice p3 t.kept.length e3], .int .i64 y]) (by simp [results, Tryz.results18, go_sem, r0, r1, r2, r3, r4, r5, r6, r7]) rfl ⟨⟨t, _, _, _, y, rfl, hy, ED.1, sz9⟩, ED.2⟩
  · have HO := specHeapOk_c _ t _ K3.hr (by omega) (by omega)
    have RK : Hid (okC t = true → t.roots.length ≤ 20) := fun q => (ok_len q).2.2.2.2.2
    go_wp2_with fail
    refine HO.mono ?_
    rintro x w4 ⟨rfl, hb4⟩
    have K4 := K3.later hb4
    clear HO K3 hb4 c0 c1 c2 c3 c4 c5 c6 c7
    cases hk : okC t
    · clear RK hk
      have OKC : (#[.slice p1 t.words.length e1, .slice p2 t.roots.length e2, .int .i64 t.old, .int .i64 t.eden, .int .i64 t.surv, .bool t.flip, .int .i64 t.hash, .slice p3 t.kept.length e3] : Array Value).all (·.oneCell') = true := by simp [Value.oneCell']
      have hs0 : AX w w1.heap.size N cv cs H w4.drew t _ _ _ := K4.step (Sx.refl K4.dw).drew
      go_wp2_with fail
      refine Disk.z_plain 99 (fun W' => AX w w1.heap.size N cv cs H W' t (.slice p1 t.words.length e1) (.slice p2 t.roots.length e2) (.slice p3 t.kept.length e3)) hmx hs0 (fun hs => ?_)
      clear hs0
      generalize w4.drew = wd at hs ⊢
      refine Disk.z_take 0 28 (v := .agg #[.slice p1 t.words.length e1, .slice p2 t.roots.length e2, .int .i64 t.old, .int .i64 t.eden, .int .i64 t.surv, .bool t.flip, .int .i64 t.hash, .slice p3 t.kept.length e3]) rfl rfl (by kernel_rfl) (by kernel_rfl) (by kernel_rfl) (by kernel_rfl) (by rfl) hs (fun W' hSw => (by
        obtain ⟨s0, s1, s2, s3, s4, s5, s6, s7⟩ := va8_cells hSw.row
        go_simp; first | done | with_reducible rfl)) ?_
      simp only [List.setIfInBounds_toArray, List.set_cons_zero, List.set_cons_succ]
      refine Disk.z_take 1 29 (v := .pointer (some ⟨N, 0, none⟩)) rfl rfl (by kernel_rfl) (by kernel_rfl) (by kernel_rfl) (by kernel_rfl) (by rfl) hs (fun W' hSw => (by
        obtain ⟨s0, s1, s2, s3, s4, s5, s6, s7⟩ := va8_cells hSw.row
        go_simp; first | done | with_reducible rfl)) ?_
      simp only [List.setIfInBounds_toArray, List.set_cons_zero, List.set_cons_succ]
      refine Disk.z_take 2 30 (v := .agg #[.slice p1 t.words.length e1, .slice p2 t.roots.length e2, .int .i64 t.old, .int .i64 t.eden, .int .i64 t.surv, .bool t.flip, .int .i64 t.hash, .slice p3 t.kept.length e3]) rfl rfl (by kernel_rfl) (by kernel_rfl) (by kernel_rfl) (by kernel_rfl) (by rfl) hs (fun W' hSw => (by
        obtain ⟨s0, s1, s2, s3, s4, s5, s6, s7⟩ := va8_cells hSw.row
        go_simp; first | done | with_reducible rfl)) ?_
      simp only [List.setIfInBounds_toArray, List.set_cons_zero, List.set_cons_succ]
      refine Disk.z_call 3 31 rfl rfl (by kernel_rfl) (by rfl) (f := 53) (args := #[.pointer (some ⟨N, 0, none⟩), .agg #[.slice p1 t.words.length e1, .slice p2 t.roots.length e2, .int .i64 t.old, .int .i64 t.eden, .int .i64 t.surv, .bool t.flip, .int .i64 t.hash, .slice p3 t.kept.length e3]]) (w0 := wd) (by go_simp) ?_
      refine (hs.dw.word7 hs.lt hs.hr (by have := hs.sz; omega) (by have := hs.sz; omega)).mono ?_
      rintro e wq ⟨⟨y, rfl, hy⟩, sq⟩
      have hsq := hs.step sq
      refine ⟨_, rfl, .inr hsq, ?_⟩
      simp only [List.setIfInBounds_toArray, List.set_cons_zero, List.set_cons_succ]
      clear hs sq
      obtain ⟨fR, FR⟩ := hsq.res
      obtain ⟨w9, run9, F9, G9⟩ := store_run wq w.heap.size _ fR FR rfl OKC
      have hs9 := hsq.ans G9 F9
      have ED := hsq.done G9
      refine Disk.z_skip 4 (w' := w9) rfl rfl (by kernel_rfl) (by rfl) (exec_store rfl rfl rfl run9) (.inr hs9) ?_
      refine Disk.z_run 5 3 (v := .int .i64 y) rfl rfl (by kernel_rfl) (by rfl) (w' := w9) (by go_simp; first | done | with_reducible rfl) (.inr hs9) ?_
      simp only [List.setIfInBounds_toArray, List.set_cons_zero, List.set_cons_succ]
      refine Disk.z_done (by kernel_rfl) ?_ _
      have r0 := F9.cell (i := 0) (by omega); have r1 := F9.cell (i := 1) (by omega); have r2 := F9.cell (i := 2) (by omega); have r3 := F9.cell (i := 3) (by omega); have r4 := F9.cell (i := 4) (by omega); have r5 := F9.cell (i := 5) (by omega); have r6 := F9.cell (i := 6) (by omega); have r7 := F9.cell (i := 7) (by omega)
      have sz9 := hsq.sz
      clear run9 G9 FR hsq hs9 OKC
      go_wp2_with fail
      exact bodyPost_ret (v := .tuple #[.agg #[.slice p1 t.words.length e1, .slice p2 t.roots.length e2, .int .i64 t.old, .int .i64 t.eden, .int .i64 t.surv, .bool t.flip, .int .i64 t.hash, .slice p3 t.kept.length e3], .int .i64 y]) (by simp [results, Tryz.results18, go_sem, r0, r1, r2, r3, r4, r5, r6, r7]) rfl ⟨⟨t, _, _, _, y, rfl, hy, ED.1, sz9⟩, ED.2⟩
    · have rk : Hid (t.roots.length ≤ 20) := RK.out hk
      clear RK hk
      go_wp2
      go_loopw [] (fun wr => ∃ (t' : Hp) (p2' : Option Addr) (e2' : Nat), t'.roots.length ≤ 20 ∧ AX w w1.heap.size N cv cs H wr t' (.slice p1 t'.words.length e1) (.slice p2' t'.roots.length e2') (.slice p3 t'.kept.length e3)) (fun wr => 21 - rtOf H wr)
      case atStart => exact ⟨t, p2, e2, rk.out, K4⟩
      case round =>
        clear K4 rk
        obtain ⟨t, p2, e2, rl, K⟩ := hrel
        have ed := rtOf_eq (va8_cells K.row).2.1
        have hs0 : AX w w1.heap.size N cv cs H wr.drew t _ _ _ := K.step (Sx.refl K.dw).drew
        go_wp2_with fail
        refine Disk.z_plain 99 (fun W' => AX w w1.heap.size N cv cs H W' t (.slice p1 t.words.length e1) (.slice p2 t.roots.length e2) (.slice p3 t.kept.length e3)) hmx hs0 (fun hs => ?_)
        clear hs0 K
        generalize wr.drew = wd at hs ⊢
        refine Disk.z_take 0 16 (v := .pointer (some ⟨H, 1, none⟩)) rfl rfl (by kernel_rfl) (by kernel_rfl) (by kernel_rfl) (by kernel_rfl) (by rfl) hs (fun W' hSw => (by
          obtain ⟨s0, s1, s2, s3, s4, s5, s6, s7⟩ := va8_cells hSw.row
          go_simp; first | done | with_reducible rfl)) ?_
        simp only [List.setIfInBounds_toArray, List.set_cons_zero, List.set_cons_succ]
        refine Disk.z_take 1 17 (v := .slice p2 t.roots.length e2) rfl rfl (by kernel_rfl) (by kernel_rfl) (by kernel_rfl) (by kernel_rfl) (by rfl) hs (fun W' hSw => (by
          obtain ⟨s0, s1, s2, s3, s4, s5, s6, s7⟩ := va8_cells hSw.row
          go_simp; first | done | with_reducible rfl)) ?_
        simp only [List.setIfInBounds_toArray, List.set_cons_zero, List.set_cons_succ]
        refine Disk.z_take 2 18 (v := .int .i64 (t.roots.length : Int)) rfl rfl (by kernel_rfl) (by kernel_rfl) (by kernel_rfl) (by kernel_rfl) (by rfl) hs (fun W' hSw => (by
          obtain ⟨s0, s1, s2, s3, s4, s5, s6, s7⟩ := va8_cells hSw.row
          go_simp; first | done | with_reducible rfl)) ?_
        simp only [List.setIfInBounds_toArray, List.set_cons_zero, List.set_cons_succ]
        refine Disk.z_take 3 19 (v := .pointer (some ⟨N, 0, none⟩)) rfl rfl (by kernel_rfl) (by kernel_rfl) (by kernel_rfl) (by kernel_rfl) (by rfl) hs (fun W' hSw => (by
          obtain ⟨s0, s1, s2, s3, s4, s5, s6, s7⟩ := va8_cells hSw.row
          go_simp; first | done | with_reducible rfl)) ?_
        simp only [List.setIfInBounds_toArray, List.set_cons_zero, List.set_cons_succ]
        refine Disk.z_call 4 20 rfl rfl (by kernel_rfl) (by rfl) (f := 34) (args := #[.pointer (some ⟨N, 0, none⟩), .int .i64 2]) (w0 := wd) (by go_simp) ?_
        refine (hs.dw.less 2 (by omega) (by omega)).mono ?_
        rintro e wq ⟨⟨z, rfl, zl, zu⟩, gq, dq⟩
        have hsq := hs.step ⟨gq, dq⟩
        refine ⟨_, rfl, .inr hsq, ?_⟩
        simp only [List.setIfInBounds_toArray, List.set_cons_zero, List.set_cons_succ]
        clear hs gq dq
        have sw : IntKind.i64.wrap (20 - z) = 20 - z := by
          simp [IntKind.wrap, IntKind.bits, IntKind.signed]
          omega
        refine Disk.z_run 5 21 (v := .int .i64 (20 - z)) rfl rfl (by kernel_rfl) (by rfl) (w' := wq) (by go_simp; first | done | with_reducible rfl) (.inr hsq) ?_
        simp only [List.setIfInBounds_toArray, List.set_cons_zero, List.set_cons_succ]
        refine Disk.z_run 6 22 (v := .bool (decide ((t.roots.length : Int) < 20 - z))) rfl rfl (by kernel_rfl) (by rfl) (w' := wq) (by go_simp; first | done | with_reducible rfl) (.inr hsq) ?_
        simp only [List.setIfInBounds_toArray, List.set_cons_zero, List.set_cons_succ]
        refine Disk.z_done (by kernel_rfl) ?_ _
        by_cases hlt : (t.roots.length : Int) < 20 - z
        · have al := bel_one wq (.cells #[.int .i64 2] 2)
          have K5 := hsq.later al
          have c9 : (wq.alloc (.cells #[.int .i64 2] 2)).cell? ⟨wq.heap.size, 0, none⟩ = some (.int .i64 2) := by simp
          have bw : w1.heap.size ≤ (wq.alloc (.cells #[.int .i64 2] 2)).heap.size := by have := K5.row.lt; have := K5.hB; omega
          obtain ⟨c0, c1, c2, c3, c4, c5, c6, c7⟩ := va8_cells hsq.row
          clear hsq
          go_wp2_with (at_builtin; refine app_loc _ rfl _ _ rfl w1.heap.size _ t.roots t.roots.length rfl rfl K5.ha.o2 (by omega) wq.heap.size 1 2 rfl c9 bw ?_; intro u w5 O5 G5 L5; obtain ⟨pu, eu, rfl⟩ := own_shape O5; obtain ⟨rq, K6⟩ := K5.roots (own_len1 O5) G5 L5 (by rw [List.length_append, List.length_singleton]; omega); have c1' := rq.cell (i := 1) (by omega); have fz1 := rq.frozen 1; clear rq c0 c1 c2 c3 c4 c5 c6 c7)
          have ed' := rtOf_eq (va8_cells K6.row).2.1
          have el : (t.roots ++ [2]).length = t.roots.length + 1 := by rw [List.length_append, List.length_singleton]
          refine ⟨⟨{ t with roots := t.roots ++ [2] }, pu, eu, ?_, ?_⟩, by rw [ed', ed]; omega⟩
          · show (t.roots ++ [2]).length ≤ 20
            omega
          · show AX w w1.heap.size N cv cs H _ { t with roots := t.roots ++ [2] } (.slice p1 t.words.length e1) (.slice pu (t.roots ++ [2]).length eu) (.slice p3 t.kept.length e3)
            rw [el]
            exact K6
        · clear ed
          have OKC : (#[.slice p1 t.words.length e1, .slice p2 t.roots.length e2, .int .i64 t.old, .int .i64 t.eden, .int .i64 t.surv, .bool t.flip, .int .i64 t.hash, .slice p3 t.kept.length e3] : Array Value).all (·.oneCell') = true := by simp [Value.oneCell']
          have hs0 : AX w w1.heap.size N cv cs H wq.drew t _ _ _ := hsq.step (Sx.refl hsq.dw).drew
          go_wp2_with fail
          refine Disk.z_plain 99 (fun W' => AX w w1.heap.size N cv cs H W' t (.slice p1 t.words.length e1) (.slice p2 t.roots.length e2) (.slice p3 t.kept.length e3)) hmx hs0 (fun hs => ?_)
          clear hs0
          generalize wq.drew = wd at hs ⊢
          refine Disk.z_take 0 28 (v := .agg #[.slice p1 t.words.length e1, .slice p2 t.roots.length e2, .int .i64 t.old, .int .i64 t.eden, .int .i64 t.surv, .bool t.flip, .int .i64 t.hash, .slice p3 t.kept.length e3]) rfl rfl (by kernel_rfl) (by kernel_rfl) (by kernel_rfl) (by kernel_rfl) (by rfl) hs (fun W' hSw => (by
            obtain ⟨s0, s1, s2, s3, s4, s5, s6, s7⟩ := va8_cells hSw.row
            go_simp; first | done | with_reducible rfl)) ?_
          simp only [List.setIfInBounds_toArray, List.set_cons_zero, List.set_cons_succ]
          refine Disk.z_take 1 29 (v := .pointer (some ⟨N, 0, none⟩)) rfl rfl (by kernel_rfl) (by kernel_rfl) (by kernel_rfl) (by kernel_rfl) (by rfl) hs (fun W' hSw => (by
            obtain ⟨s0, s1, s2, s3, s4, s5, s6, s7⟩ := va8_cells hSw.row
            go_simp; first | done | with_reducible rfl)) ?_
          simp only [List.setIfInBounds_toArray, List.set_cons_zero, List.set_cons_succ]
          refine Disk.z_take 2 30 (v := .agg #[.slice p1 t.words.length e1, .slice p2 t.roots.length e2, .int .i64 t.old, .int .i64 t.eden, .int .i64 t.surv, .bool t.flip, .int .i64 t.hash, .slice p3 t.kept.length e3]) rfl rfl (by kernel_rfl) (by kernel_rfl) (by kernel_rfl) (by kernel_rfl) (by rfl) hs (fun W' hSw => (by
            obtain ⟨s0, s1, s2, s3, s4, s5, s6, s7⟩ := va8_cells hSw.row
            go_simp; first | done | with_reducible rfl)) ?_
          simp only [List.setIfInBounds_toArray, List.set_cons_zero, List.set_cons_succ]
          refine Disk.z_call 3 31 rfl rfl (by kernel_rfl) (by rfl) (f := 53) (args := #[.pointer (some ⟨N, 0, none⟩), .agg #[.slice p1 t.words.length e1, .slice p2 t.roots.length e2, .int .i64 t.old, .int .i64 t.eden, .int .i64 t.surv, .bool t.flip, .int .i64 t.hash, .slice p3 t.kept.length e3]]) (w0 := wd) (by go_simp) ?_
          refine (hs.dw.word7 hs.lt hs.hr (by have := hs.sz; omega) (by have := hs.sz; omega)).mono ?_
          rintro e wq ⟨⟨y, rfl, hy⟩, sq⟩
          have hsq := hs.step sq
          refine ⟨_, rfl, .inr hsq, ?_⟩
          simp only [List.setIfInBounds_toArray, List.set_cons_zero, List.set_cons_succ]
          clear hs sq
          obtain ⟨fR, FR⟩ := hsq.res
          obtain ⟨w9, run9, F9, G9⟩ := store_run wq w.heap.size _ fR FR rfl OKC
          have hs9 := hsq.ans G9 F9
          have ED := hsq.done G9
          refine Disk.z_skip 4 (w' := w9) rfl rfl (by kernel_rfl) (by rfl) (exec_store rfl rfl rfl run9) (.inr hs9) ?_
          refine Disk.z_run 5 3 (v := .int .i64 y) rfl rfl (by kernel_rfl) (by rfl) (w' := w9) (by go_simp; first | done | with_reducible rfl) (.inr hs9) ?_
          simp only [List.setIfInBounds_toArray, List.set_cons_zero, List.set_cons_succ]
          refine Disk.z_done (by kernel_rfl) ?_ _
          have r0 := F9.cell (i := 0) (by omega); have r1 := F9.cell (i := 1) (by omega); have r2 := F9.cell (i := 2) (by omega); have r3 := F9.cell (i := 3) (by omega); have r4 := F9.cell (i := 4) (by omega); have r5 := F9.cell (i := 5) (by omega); have r6 := F9.cell (i := 6) (by omega); have r7 := F9.cell (i := 7) (by omega)
          have sz9 := hsq.sz
          clear run9 G9 FR hsq hs9 OKC
          go_wp2_with fail
          exact bodyPost_ret (v := .tuple #[.agg #[.slice p1 t.words.length e1, .slice p2 t.roots.length e2, .int .i64 t.old, .int .i64 t.eden, .int .i64 t.surv, .bool t.flip, .int .i64 t.hash, .slice p3 t.kept.length e3], .int .i64 y]) (by simp [results, Tryz.results18, go_sem, r0, r1, r2, r3, r4, r5, r6, r7]) rfl ⟨⟨t, _, _, _, y, rfl, hy, ED.1, sz9⟩, ED.2⟩

end Go.Proofs.YtphkmgalgngjiaaGreat
