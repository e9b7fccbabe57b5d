/- AddRoot of the program. -/
import Derived.Test.YtgacacbncefeaaaGreatZMFit
import Derived.Test.YtgacacbncefeaaaGreatZMApp
namespace Go.Proofs.YtgacacbncefeaaaGreat
open Go.RowKit

theorem add_no {h : Hp} {x : Int} (k : addB h x = false) : addC h x = zeroH := by unfold addC; rw [k]; rfl
theorem add_yes {h : Hp} {x : Int} (k : addB h x = true) : addC h x = { h with roots := h.roots ++ [x] } := by unfold addC; rw [k]; rfl
theorem zero_ret {h' : Hp} {b : Bool} {B : Nat} {w' : World} (k : b = false) (e : h' = zeroH) :
    Ending.returned (.tuple #[.agg #[.slice none 0 0, .slice none 0 0, .int .i64 0, .int .i64 0, .int .i64 0, .bool false, .int .i64 0, .slice none 0 0], .bool false]) = .returned (.tuple #[.agg #[.slice none 0 0, .slice none 0 0, .int .i64 0, .int .i64 0, .int .i64 0, .bool false, .int .i64 0, .slice none 0 0], .bool b]) ∧ HN B w' (.agg #[.slice none 0 0, .slice none 0 0, .int .i64 0, .int .i64 0, .int .i64 0, .bool false, .int .i64 0, .slice none 0 0]) h' := by
  subst k
  subst e
  exact ⟨rfl, zero_hn _ _⟩

theorem row_one (w : World) (x : Int) : RI (w.alloc (.cells #[.int .i64 x] 2)) w.heap.size [x] 1 := by
  refine ⟨fun _ => .int .i64 x, World.rowIs_alloc w #[.int .i64 x] 2 _ (fun i hi => ?_), by simp, fun i hi => ?_⟩
  · have : i = 0 := by simp at hi; omega
    subst this
    rfl
  · have : i = 0 := by simp at hi; omega
    subst this
    rfl

set_option maxRecDepth 100000 in
set_option maxHeartbeats 3200000 in
theorem implAddRoot_c (v : Value) (h : Hp) (x : Int) (w : World) (hv : HR w v h) (hwo : h.words.length ≤ 1000000000000) (hro : h.roots.length ≤ 1000000000000) (hke : h.kept.length ≤ 1000000000000) :
    Calls Tryz.prog 37 #[v, .int .i64 x] w fun e w' => (∃ u, e = .returned (.tuple #[u, .bool (addB h x)]) ∧ HN w.heap.size w' u (addC h x)) ∧ Below w.heap.size w w' := by
  obtain ⟨v1, v2, v3, rfl, i1, i2, i3⟩ := id hv
  obtain ⟨a1, c1, rfl, -⟩ := IRs i1
  obtain ⟨a2, c2, rfl, -⟩ := IRs i2
  obtain ⟨a3, c3, rfl, -⟩ := IRs i3
  have hb0 : Below w.heap.size w ((w.alloc (.cells #[.slice a1 h.words.length c1, .slice a2 h.roots.length c2, .int .i64 h.old, .int .i64 h.eden, .int .i64 h.surv, .bool h.flip, .int .i64 h.hash, .slice a3 h.kept.length c3] 28)).alloc (.cells #[.slice none 0 0, .slice none 0 0, .int .i64 0, .int .i64 0, .int .i64 0, .bool false, .int .i64 0, .slice none 0 0] 28)) := bel_after (bel_one _ _) (bel_one _ _)
  obtain ⟨f, R0⟩ : ∃ f, ((w.alloc (.cells #[.slice a1 h.words.length c1, .slice a2 h.roots.length c2, .int .i64 h.old, .int .i64 h.eden, .int .i64 h.surv, .bool h.flip, .int .i64 h.hash, .slice a3 h.kept.length c3] 28)).alloc (.cells #[.slice none 0 0, .slice none 0 0, .int .i64 0, .int .i64 0, .int .i64 0, .bool false, .int .i64 0, .slice none 0 0] 28)).rowIs (w.heap.size + 1) 28 8 f := by
    have q := row_any (w.alloc (.cells #[.slice a1 h.words.length c1, .slice a2 h.roots.length c2, .int .i64 h.old, .int .i64 h.eden, .int .i64 h.surv, .bool h.flip, .int .i64 h.hash, .slice a3 h.kept.length c3] 28)) #[.slice none 0 0, .slice none 0 0, .int .i64 0, .int .i64 0, .int .i64 0, .bool false, .int .i64 0, .slice none 0 0] 28
    rw [World.size_alloc] at q
    exact ⟨_, q⟩
  have C := draftOf_c _ h _ (hv.later hb0) hwo hro hke
  clear i1 i2 i3
  go_enter Tryz.func37, Tryz.ntmps37
  go_wp2_with fail
  refine C.mono ?_
  rintro e w1 ⟨dr, hb1⟩
  have hbw1 := bel_after hb0 hb1
  have R1 := R0.of_block (hb1.block _ R0.lt)
  clear C R0
  rcases dr with ⟨hk, g1, g2, g3, oa, oc, rfl, ⟨q1, q2, q3⟩, ⟨l0, l1, l2⟩, io⟩ | ⟨hk, rfl⟩
  · have al := bel_one w1 (.cells #[.slice (some ⟨g1, 0, none⟩) h.words.length h.words.length, .slice oa (obC h).length oc, .slice (some ⟨g2, 0, none⟩) h.roots.length h.roots.length, .int .i64 h.old, .int .i64 h.eden, .int .i64 h.surv, .bool h.flip, .int .i64 h.hash, .slice (some ⟨g3, 0, none⟩) h.kept.length h.kept.length] 72)
    have hbA := bel_after hbw1 al
    have R2 := R1.of_block (al.block _ R1.lt)
    obtain ⟨fd, D2⟩ : ∃ fd, (w1.alloc (.cells #[.slice (some ⟨g1, 0, none⟩) h.words.length h.words.length, .slice oa (obC h).length oc, .slice (some ⟨g2, 0, none⟩) h.roots.length h.roots.length, .int .i64 h.old, .int .i64 h.eden, .int .i64 h.surv, .bool h.flip, .int .i64 h.hash, .slice (some ⟨g3, 0, none⟩) h.kept.length h.kept.length] 72)).rowIs w1.heap.size 72 9 fd := ⟨_, row_any w1 #[.slice (some ⟨g1, 0, none⟩) h.words.length h.words.length, .slice oa (obC h).length oc, .slice (some ⟨g2, 0, none⟩) h.roots.length h.roots.length, .int .i64 h.old, .int .i64 h.eden, .int .i64 h.surv, .bool h.flip, .int .i64 h.hash, .slice (some ⟨g3, 0, none⟩) h.kept.length h.kept.length] 72⟩
    have FT := draftFits_any (some ⟨g1, 0, none⟩) oa h.words.length h.words.length oc (obC h) x _ (io.later al) (ok_sorted hk) (by have := ob_short h; omega)
    go_wp2_with fail
    refine FT.mono ?_
    rintro e w2 ⟨rfl, hb2⟩
    have hb12 := bel_after al hb2
    have l0' : w.heap.size + 1 + 1 ≤ g1 := by simpa using l0
    have hbw2 := bel_after hbw1 hb12
    have R3 := R2.of_block (hb2.block _ R2.lt)
    have d0 : w2.cell? ⟨w1.heap.size, 0, none⟩ = some (.slice (some ⟨g1, 0, none⟩) h.words.length h.words.length) := (cell_later hb2 (cell_new w1 _ _ _ rfl 0 _ rfl))
    have d1 : w2.cell? ⟨w1.heap.size, 1, none⟩ = some (.slice oa (obC h).length oc) := (cell_later hb2 (cell_new w1 _ _ _ rfl 1 _ rfl))
    have d2 : w2.cell? ⟨w1.heap.size, 2, none⟩ = some (.slice (some ⟨g2, 0, none⟩) h.roots.length h.roots.length) := (cell_later hb2 (cell_new w1 _ _ _ rfl 2 _ rfl))
    have d3 : w2.cell? ⟨w1.heap.size, 3, none⟩ = some (.int .i64 h.old) := (cell_later hb2 (cell_new w1 _ _ _ rfl 3 _ rfl))
    have d4 : w2.cell? ⟨w1.heap.size, 4, none⟩ = some (.int .i64 h.eden) := (cell_later hb2 (cell_new w1 _ _ _ rfl 4 _ rfl))
    have d5 : w2.cell? ⟨w1.heap.size, 5, none⟩ = some (.int .i64 h.surv) := (cell_later hb2 (cell_new w1 _ _ _ rfl 5 _ rfl))
    have d6 : w2.cell? ⟨w1.heap.size, 6, none⟩ = some (.bool h.flip) := (cell_later hb2 (cell_new w1 _ _ _ rfl 6 _ rfl))
    have d7 : w2.cell? ⟨w1.heap.size, 7, none⟩ = some (.int .i64 h.hash) := (cell_later hb2 (cell_new w1 _ _ _ rfl 7 _ rfl))
    have d8 : w2.cell? ⟨w1.heap.size, 8, none⟩ = some (.slice (some ⟨g3, 0, none⟩) h.kept.length h.kept.length) := (cell_later hb2 (cell_new w1 _ _ _ rfl 8 _ rfl))
    have D3 := D2.of_block (hb2.block _ D2.lt)
    clear R1 R2 D2 FT io hb2
    cases hft : fitB (obC h) x
    · have AB : addB h x = false := by unfold addB; rw [hk, hft]; rfl
      have r0 := R3.cell (i := 0) (by omega)
      have r1 := R3.cell (i := 1) (by omega)
      have r2 := R3.cell (i := 2) (by omega)
      have r3 := R3.cell (i := 3) (by omega)
      have r4 := R3.cell (i := 4) (by omega)
      have r5 := R3.cell (i := 5) (by omega)
      have r6 := R3.cell (i := 6) (by omega)
      have r7 := R3.cell (i := 7) (by omega)
      have fR := fun i => R3.frozen i
      have ltR := R3.lt
      have B9 : Below w.heap.size w ((((((((w2.setCell ⟨w.heap.size + 1, 0, none⟩ (.slice none 0 0)).setCell ⟨w.heap.size + 1, 1, none⟩ (.slice none 0 0)).setCell ⟨w.heap.size + 1, 2, none⟩ (.int .i64 0)).setCell ⟨w.heap.size + 1, 3, none⟩ (.int .i64 0)).setCell ⟨w.heap.size + 1, 4, none⟩ (.int .i64 0)).setCell ⟨w.heap.size + 1, 5, none⟩ (.bool false)).setCell ⟨w.heap.size + 1, 6, none⟩ (.int .i64 0)).setCell ⟨w.heap.size + 1, 7, none⟩ (.slice none 0 0)) := by
        repeat (refine Below.setCell ?_ (p := ⟨w.heap.size + 1, _, none⟩) (Nat.le_succ _) _)
        exact hbw2
      go_wp2
      exact bodyPost_ret (v := .tuple #[.agg #[.slice none 0 0, .slice none 0 0, .int .i64 0, .int .i64 0, .int .i64 0, .bool false, .int .i64 0, .slice none 0 0], .bool false]) (by simp [results, Tryz.results37, go_sem, r0, r1, r2, r3, r4, r5, r6, r7]) rfl ⟨⟨_, zero_ret AB (add_no AB)⟩, B9⟩
    by_cases h20 : h.roots.length = 20
    · have AB : addB h x = false := by unfold addB; rw [hk, hft, h20]; rfl
      have t20 : ((h.roots.length : Int) == 20) = true := by rw [h20]; rfl
      replace h20 : Hid (h.roots.length = 20) := h20
      have r0 := R3.cell (i := 0) (by omega)
      have r1 := R3.cell (i := 1) (by omega)
      have r2 := R3.cell (i := 2) (by omega)
      have r3 := R3.cell (i := 3) (by omega)
      have r4 := R3.cell (i := 4) (by omega)
      have r5 := R3.cell (i := 5) (by omega)
      have r6 := R3.cell (i := 6) (by omega)
      have r7 := R3.cell (i := 7) (by omega)
      have fR := fun i => R3.frozen i
      have ltR := R3.lt
      have B9 : Below w.heap.size w ((((((((w2.setCell ⟨w.heap.size + 1, 0, none⟩ (.slice none 0 0)).setCell ⟨w.heap.size + 1, 1, none⟩ (.slice none 0 0)).setCell ⟨w.heap.size + 1, 2, none⟩ (.int .i64 0)).setCell ⟨w.heap.size + 1, 3, none⟩ (.int .i64 0)).setCell ⟨w.heap.size + 1, 4, none⟩ (.int .i64 0)).setCell ⟨w.heap.size + 1, 5, none⟩ (.bool false)).setCell ⟨w.heap.size + 1, 6, none⟩ (.int .i64 0)).setCell ⟨w.heap.size + 1, 7, none⟩ (.slice none 0 0)) := by
        repeat (refine Below.setCell ?_ (p := ⟨w.heap.size + 1, _, none⟩) (Nat.le_succ _) _)
        exact hbw2
      go_wp2
      exact bodyPost_ret (v := .tuple #[.agg #[.slice none 0 0, .slice none 0 0, .int .i64 0, .int .i64 0, .int .i64 0, .bool false, .int .i64 0, .slice none 0 0], .bool false]) (by simp [results, Tryz.results37, go_sem, r0, r1, r2, r3, r4, r5, r6, r7]) rfl ⟨⟨_, zero_ret AB (add_no AB)⟩, B9⟩
    have AB : addB h x = true := by unfold addB; rw [hk, hft, decide_eq_false h20]; rfl
    have t20 : ((h.roots.length : Int) == 20) = false := by rw [beq_eq_false_iff_ne]; omega
    have lr : h.roots.length ≤ 20 := (ok_len hk).2.2.2.2.2
    have ltN := R3.lt
    have ltD := D3.lt
    have ltg1 := q1.lt
    have ltg2 := q2.lt
    have ltg3 := q3.lt
    have b3 := bel_one w2 (.cells #[.int .i64 x] 2)
    have b13 := bel_after hb12 b3
    have I3 : IR (w2.alloc (.cells #[.int .i64 x] 2)) (.slice (some ⟨w2.heap.size, 0, none⟩) 1 1) [x] := (row_one w2 x).ir (Nat.le_refl _)
    have P1 := q1.later b13
    have P2 := q2.later b13
    have P3 := q3.later b13
    have lt12 := hb12.size
    clear h20 hft hv
    go_wp2_with (at_builtin; go_loud (refine app_ri _ rfl _ _ rfl g2 h.roots.length h.roots.length h.roots rfl rfl P2 (by omega) (by unfold maxLen; omega) (some ⟨w2.heap.size, 0, none⟩) 1 1 [x] rfl rfl I3 (by simp) ?_); intro g' c' w4 P4 G4 wh mc; have k0 := G4.cell (cell_later b3 d0) (by simp <;> omega); have k1 := G4.cell (cell_later b3 d1) (by simp <;> omega); have k2 := G4.cell (cell_later b3 d2) (by simp <;> omega); have k3 := G4.cell (cell_later b3 d3) (by simp <;> omega); have k4 := G4.cell (cell_later b3 d4) (by simp <;> omega); have k5 := G4.cell (cell_later b3 d5) (by simp <;> omega); have k6 := G4.cell (cell_later b3 d6) (by simp <;> omega); have k7 := G4.cell (cell_later b3 d7) (by simp <;> omega); have k8 := G4.cell (cell_later b3 d8) (by simp <;> omega); have D4 := (D3.of_block (b3.block _ D3.lt)).of_block (G4.block _ (by simp <;> omega) (by simp <;> omega)); have fD := fun i => D4.frozen i; have R4 := (R3.of_block (b3.block _ R3.lt)).of_block (G4.block _ (by simp <;> omega) (by simp <;> omega)); have M1 := P1.grown G4 (by simp <;> omega); have M3 := P3.grown G4 (by simp <;> omega))
    refine (draftHeap_any _ _ _ _ _ _ _ _ _ _ _ _ _ _ _ _ _ _).mono ?_
    rintro e w6 ⟨rfl, hb6⟩
    have sz2 : (w2.alloc (.cells #[.int .i64 x] 2)).heap.size = w2.heap.size + 1 := by simp
    rw [sz2] at wh
    have ng : g' ≠ w1.heap.size ∧ g' ≠ w.heap.size + 1 ∧ g1 ≠ g' ∧ g' ≠ g3 ∧ w.heap.size ≤ g' := by
      rcases wh with e | ⟨e, _⟩ <;> omega
    obtain ⟨ng1, ng2, ng3, ng4, ng5⟩ := ng
    have R5 := R4.setOther (a := ⟨w1.heap.size, 2, none⟩) (by show w.heap.size + 1 ≠ w1.heap.size; omega) (.slice (some ⟨g', 0, none⟩) (h.roots.length + 1) c')
    have R6 := R5.of_block (hb6.block _ R5.lt)
    have S1 := (M1.setOther (b := w1.heap.size) (i := 2) (by omega) (.slice (some ⟨g', 0, none⟩) (h.roots.length + 1) c')).later hb6
    have S2 := (P4.setOther (b := w1.heap.size) (i := 2) ng1 (.slice (some ⟨g', 0, none⟩) (h.roots.length + 1) c')).later hb6
    have S3 := (M3.setOther (b := w1.heap.size) (i := 2) (by omega) (.slice (some ⟨g', 0, none⟩) (h.roots.length + 1) c')).later hb6
    have hbx : Below w.heap.size w w4 := Below.grown (bel_after hbw2 b3) G4 (by have := hbw2.size; simp; omega) (fun k hk => by cases hk; omega)
    have hb5 : Below w.heap.size w w6 := (hbx.setCell (p := ⟨w1.heap.size, 2, none⟩) (by show w.heap.size ≤ w1.heap.size; omega) _).trans (hb6.mono (by have := hbx.size; simp; omega))
    have r0 := R6.cell (i := 0) (by omega)
    have r1 := R6.cell (i := 1) (by omega)
    have r2 := R6.cell (i := 2) (by omega)
    have r3 := R6.cell (i := 3) (by omega)
    have r4 := R6.cell (i := 4) (by omega)
    have r5 := R6.cell (i := 5) (by omega)
    have r6 := R6.cell (i := 6) (by omega)
    have r7 := R6.cell (i := 7) (by omega)
    have fR := fun i => R6.frozen i
    have ltR := R6.lt
    have T1 : RI ((((((((w6.setCell ⟨w.heap.size + 1, 0, none⟩ (.slice (some ⟨g1, 0, none⟩) h.words.length h.words.length)).setCell ⟨w.heap.size + 1, 1, none⟩ (.slice (some ⟨g', 0, none⟩) (h.roots.length + 1) c')).setCell ⟨w.heap.size + 1, 2, none⟩ (.int .i64 h.old)).setCell ⟨w.heap.size + 1, 3, none⟩ (.int .i64 h.eden)).setCell ⟨w.heap.size + 1, 4, none⟩ (.int .i64 h.surv)).setCell ⟨w.heap.size + 1, 5, none⟩ (.bool h.flip)).setCell ⟨w.heap.size + 1, 6, none⟩ (.int .i64 h.hash)).setCell ⟨w.heap.size + 1, 7, none⟩ (.slice (some ⟨g3, 0, none⟩) h.kept.length h.kept.length)) g1 h.words h.words.length := (RI.setOther (RI.setOther (RI.setOther (RI.setOther (RI.setOther (RI.setOther (RI.setOther (RI.setOther S1 (by omega) _) (by omega) _) (by omega) _) (by omega) _) (by omega) _) (by omega) _) (by omega) _) (by omega) _)
    have T2 : RI ((((((((w6.setCell ⟨w.heap.size + 1, 0, none⟩ (.slice (some ⟨g1, 0, none⟩) h.words.length h.words.length)).setCell ⟨w.heap.size + 1, 1, none⟩ (.slice (some ⟨g', 0, none⟩) (h.roots.length + 1) c')).setCell ⟨w.heap.size + 1, 2, none⟩ (.int .i64 h.old)).setCell ⟨w.heap.size + 1, 3, none⟩ (.int .i64 h.eden)).setCell ⟨w.heap.size + 1, 4, none⟩ (.int .i64 h.surv)).setCell ⟨w.heap.size + 1, 5, none⟩ (.bool h.flip)).setCell ⟨w.heap.size + 1, 6, none⟩ (.int .i64 h.hash)).setCell ⟨w.heap.size + 1, 7, none⟩ (.slice (some ⟨g3, 0, none⟩) h.kept.length h.kept.length)) g' (h.roots ++ [x]) c' := (RI.setOther (RI.setOther (RI.setOther (RI.setOther (RI.setOther (RI.setOther (RI.setOther (RI.setOther S2 ng2 _) ng2 _) ng2 _) ng2 _) ng2 _) ng2 _) ng2 _) ng2 _)
    have T3 : RI ((((((((w6.setCell ⟨w.heap.size + 1, 0, none⟩ (.slice (some ⟨g1, 0, none⟩) h.words.length h.words.length)).setCell ⟨w.heap.size + 1, 1, none⟩ (.slice (some ⟨g', 0, none⟩) (h.roots.length + 1) c')).setCell ⟨w.heap.size + 1, 2, none⟩ (.int .i64 h.old)).setCell ⟨w.heap.size + 1, 3, none⟩ (.int .i64 h.eden)).setCell ⟨w.heap.size + 1, 4, none⟩ (.int .i64 h.surv)).setCell ⟨w.heap.size + 1, 5, none⟩ (.bool h.flip)).setCell ⟨w.heap.size + 1, 6, none⟩ (.int .i64 h.hash)).setCell ⟨w.heap.size + 1, 7, none⟩ (.slice (some ⟨g3, 0, none⟩) h.kept.length h.kept.length)) g3 h.kept h.kept.length := (RI.setOther (RI.setOther (RI.setOther (RI.setOther (RI.setOther (RI.setOther (RI.setOther (RI.setOther S3 (by omega) _) (by omega) _) (by omega) _) (by omega) _) (by omega) _) (by omega) _) (by omega) _) (by omega) _)
    have B9 : Below w.heap.size w ((((((((w6.setCell ⟨w.heap.size + 1, 0, none⟩ (.slice (some ⟨g1, 0, none⟩) h.words.length h.words.length)).setCell ⟨w.heap.size + 1, 1, none⟩ (.slice (some ⟨g', 0, none⟩) (h.roots.length + 1) c')).setCell ⟨w.heap.size + 1, 2, none⟩ (.int .i64 h.old)).setCell ⟨w.heap.size + 1, 3, none⟩ (.int .i64 h.eden)).setCell ⟨w.heap.size + 1, 4, none⟩ (.int .i64 h.surv)).setCell ⟨w.heap.size + 1, 5, none⟩ (.bool h.flip)).setCell ⟨w.heap.size + 1, 6, none⟩ (.int .i64 h.hash)).setCell ⟨w.heap.size + 1, 7, none⟩ (.slice (some ⟨g3, 0, none⟩) h.kept.length h.kept.length)) := by
      repeat (refine Below.setCell ?_ (p := ⟨w.heap.size + 1, _, none⟩) (Nat.le_succ _) _)
      exact hb5
    have HF : HN w.heap.size ((((((((w6.setCell ⟨w.heap.size + 1, 0, none⟩ (.slice (some ⟨g1, 0, none⟩) h.words.length h.words.length)).setCell ⟨w.heap.size + 1, 1, none⟩ (.slice (some ⟨g', 0, none⟩) (h.roots.length + 1) c')).setCell ⟨w.heap.size + 1, 2, none⟩ (.int .i64 h.old)).setCell ⟨w.heap.size + 1, 3, none⟩ (.int .i64 h.eden)).setCell ⟨w.heap.size + 1, 4, none⟩ (.int .i64 h.surv)).setCell ⟨w.heap.size + 1, 5, none⟩ (.bool h.flip)).setCell ⟨w.heap.size + 1, 6, none⟩ (.int .i64 h.hash)).setCell ⟨w.heap.size + 1, 7, none⟩ (.slice (some ⟨g3, 0, none⟩) h.kept.length h.kept.length)) (.agg #[.slice (some ⟨g1, 0, none⟩) h.words.length h.words.length, .slice (some ⟨g', 0, none⟩) (h.roots.length + 1) c', .int .i64 h.old, .int .i64 h.eden, .int .i64 h.surv, .bool h.flip, .int .i64 h.hash, .slice (some ⟨g3, 0, none⟩) h.kept.length h.kept.length]) (addC h x) := by
      rw [add_yes AB]
      have q := HN.of_rows (h := { h with roots := h.roots ++ [x] }) (B := w.heap.size) T1 T2 T3 (by omega) ng5 (by omega) ng3 (by omega) ng4
      rw [show ({ h with roots := h.roots ++ [x] } : Hp).roots.length = h.roots.length + 1 from by simp] at q
      exact q
    clear T1 T2 T3 S1 S2 S3 P1 P2 P3 P4 M1 M3 R3 R4 R5 R6 D3 D4 q1 q2 q3 I3
    go_wp2
    exact bodyPost_ret (v := .tuple #[.agg #[.slice (some ⟨g1, 0, none⟩) h.words.length h.words.length, .slice (some ⟨g', 0, none⟩) (h.roots.length + 1) c', .int .i64 h.old, .int .i64 h.eden, .int .i64 h.surv, .bool h.flip, .int .i64 h.hash, .slice (some ⟨g3, 0, none⟩) h.kept.length h.kept.length], .bool true]) (by simp [results, Tryz.results37, go_sem, r0, r1, r2, r3, r4, r5, r6, r7]) rfl ⟨⟨_, by rw [AB], HF⟩, B9⟩
  · have AB : addB h x = false := by unfold addB; rw [hk]; rfl
    have al := bel_one w1 (.cells #[.slice none 0 0, .slice none 0 0, .slice none 0 0, .int .i64 0, .int .i64 0, .int .i64 0, .bool false, .int .i64 0, .slice none 0 0] 72)
    have hbA := bel_after hbw1 al
    have R2 := R1.of_block (al.block _ R1.lt)
    clear R1
    have r0 := R2.cell (i := 0) (by omega)
    have r1 := R2.cell (i := 1) (by omega)
    have r2 := R2.cell (i := 2) (by omega)
    have r3 := R2.cell (i := 3) (by omega)
    have r4 := R2.cell (i := 4) (by omega)
    have r5 := R2.cell (i := 5) (by omega)
    have r6 := R2.cell (i := 6) (by omega)
    have r7 := R2.cell (i := 7) (by omega)
    have fR := fun i => R2.frozen i
    have ltR := R2.lt
    have B9 : Below w.heap.size w (((((((((w1.alloc (.cells #[.slice none 0 0, .slice none 0 0, .slice none 0 0, .int .i64 0, .int .i64 0, .int .i64 0, .bool false, .int .i64 0, .slice none 0 0] 72)).setCell ⟨w.heap.size + 1, 0, none⟩ (.slice none 0 0)).setCell ⟨w.heap.size + 1, 1, none⟩ (.slice none 0 0)).setCell ⟨w.heap.size + 1, 2, none⟩ (.int .i64 0)).setCell ⟨w.heap.size + 1, 3, none⟩ (.int .i64 0)).setCell ⟨w.heap.size + 1, 4, none⟩ (.int .i64 0)).setCell ⟨w.heap.size + 1, 5, none⟩ (.bool false)).setCell ⟨w.heap.size + 1, 6, none⟩ (.int .i64 0)).setCell ⟨w.heap.size + 1, 7, none⟩ (.slice none 0 0)) := by
      repeat (refine Below.setCell ?_ (p := ⟨w.heap.size + 1, _, none⟩) (Nat.le_succ _) _)
      exact hbA
    go_wp2
    exact bodyPost_ret (v := .tuple #[.agg #[.slice none 0 0, .slice none 0 0, .int .i64 0, .int .i64 0, .int .i64 0, .bool false, .int .i64 0, .slice none 0 0], .bool false]) (by simp [results, Tryz.results37, go_sem, r0, r1, r2, r3, r4, r5, r6, r7]) rfl ⟨⟨_, zero_ret AB (add_no AB)⟩, B9⟩

end Go.Proofs.YtgacacbncefeaaaGreat
