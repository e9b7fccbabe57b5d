/- A heap is copied by the model: what is known on the way. -/
import Derived.Test.YtgacacbncefeaaaGreatZMApp
namespace Go.Proofs.YtgacacbncefeaaaGreat
open Go.RowKit

theorem empty_at {w : World} {n : Nat} (h : w.heap.size = n) : RI (w.alloc (.cells #[] 2)) n [] 0 := by
  subst h
  exact empty_ri w
theorem Disk.cell_set {w : World} {b t n i : Nat} {f : Nat → Value} (h : w.rowIs b t n f) (hi : i < n) (u : Value) : (w.setCell ⟨b, i, none⟩ u).cell? ⟨b, i, none⟩ = some u := by
  rw [(h.set i u).cell hi, if_pos rfl]

/-- The box of a heap and the box of a result, one behind the other, at the end of what was there. -/
structure CS (w W : World) (u0 u1 u2 u3 u4 u5 u6 u7 : Value) : Prop where
  bel : Below w.heap.size w W
  lt : w.heap.size + 1 < W.heap.size
  c0 : W.cell? ⟨w.heap.size, 0, none⟩ = some u0
  c1 : W.cell? ⟨w.heap.size, 1, none⟩ = some u1
  c2 : W.cell? ⟨w.heap.size, 2, none⟩ = some u2
  c3 : W.cell? ⟨w.heap.size, 3, none⟩ = some u3
  c4 : W.cell? ⟨w.heap.size, 4, none⟩ = some u4
  c5 : W.cell? ⟨w.heap.size, 5, none⟩ = some u5
  c6 : W.cell? ⟨w.heap.size, 6, none⟩ = some u6
  c7 : W.cell? ⟨w.heap.size, 7, none⟩ = some u7
  box : ∃ f, W.rowIs w.heap.size 28 8 f
  res : ∃ f, W.rowIs (w.heap.size + 1) 28 8 f
theorem CS.set0 {w W : World} {u0 u1 u2 u3 u4 u5 u6 u7 : Value} (h : CS w W u0 u1 u2 u3 u4 u5 u6 u7) (u : Value) : CS w (W.setCell ⟨w.heap.size, 0, none⟩ u) u u1 u2 u3 u4 u5 u6 u7 := by
  obtain ⟨f, F⟩ := h.box
  obtain ⟨g, G⟩ := h.res
  have e : ∀ o v, o ≠ 0 → W.cell? ⟨w.heap.size, o, none⟩ = some v → (W.setCell ⟨w.heap.size, 0, none⟩ u).cell? ⟨w.heap.size, o, none⟩ = some v := fun o v ho q => by
    rw [World.cell?_setCell_other]
    · exact q
    · intro k
      simp at k <;> omega
  exact ⟨h.bel.setCell (p := ⟨w.heap.size, 0, none⟩) (Nat.le_refl _) _, by have := h.lt; simpa using this, Disk.cell_set F (by omega) u, e _ _ (by omega) h.c1, e _ _ (by omega) h.c2, e _ _ (by omega) h.c3, e _ _ (by omega) h.c4, e _ _ (by omega) h.c5, e _ _ (by omega) h.c6, e _ _ (by omega) h.c7, ⟨_, F.set 0 u⟩, ⟨_, G.setOther (a := ⟨w.heap.size, 0, none⟩) (Nat.succ_ne_self _) u⟩⟩
theorem CS.set1 {w W : World} {u0 u1 u2 u3 u4 u5 u6 u7 : Value} (h : CS w W u0 u1 u2 u3 u4 u5 u6 u7) (u : Value) : CS w (W.setCell ⟨w.heap.size, 1, none⟩ u) u0 u u2 u3 u4 u5 u6 u7 := by
  obtain ⟨f, F⟩ := h.box
  obtain ⟨g, G⟩ := h.res
  have e : ∀ o v, o ≠ 1 → W.cell? ⟨w.heap.size, o, none⟩ = some v → (W.setCell ⟨w.heap.size, 1, none⟩ u).cell? ⟨w.heap.size, o, none⟩ = some v := fun o v ho q => by
    rw [World.cell?_setCell_other]
    · exact q
    · intro k
      simp at k <;> omega
  exact ⟨h.bel.setCell (p := ⟨w.heap.size, 1, none⟩) (Nat.le_refl _) _, by have := h.lt; simpa using this, e _ _ (by omega) h.c0, Disk.cell_set F (by omega) u, e _ _ (by omega) h.c2, e _ _ (by omega) h.c3, e _ _ (by omega) h.c4, e _ _ (by omega) h.c5, e _ _ (by omega) h.c6, e _ _ (by omega) h.c7, ⟨_, F.set 1 u⟩, ⟨_, G.setOther (a := ⟨w.heap.size, 1, none⟩) (Nat.succ_ne_self _) u⟩⟩
theorem CS.set7 {w W : World} {u0 u1 u2 u3 u4 u5 u6 u7 : Value} (h : CS w W u0 u1 u2 u3 u4 u5 u6 u7) (u : Value) : CS w (W.setCell ⟨w.heap.size, 7, none⟩ u) u0 u1 u2 u3 u4 u5 u6 u := by
  obtain ⟨f, F⟩ := h.box
  obtain ⟨g, G⟩ := h.res
  have e : ∀ o v, o ≠ 7 → W.cell? ⟨w.heap.size, o, none⟩ = some v → (W.setCell ⟨w.heap.size, 7, none⟩ u).cell? ⟨w.heap.size, o, none⟩ = some v := fun o v ho q => by
    rw [World.cell?_setCell_other]
    · exact q
    · intro k
      simp at k <;> omega
  exact ⟨h.bel.setCell (p := ⟨w.heap.size, 7, none⟩) (Nat.le_refl _) _, by have := h.lt; simpa using this, e _ _ (by omega) h.c0, e _ _ (by omega) h.c1, e _ _ (by omega) h.c2, e _ _ (by omega) h.c3, e _ _ (by omega) h.c4, e _ _ (by omega) h.c5, e _ _ (by omega) h.c6, Disk.cell_set F (by omega) u, ⟨_, F.set 7 u⟩, ⟨_, G.setOther (a := ⟨w.heap.size, 7, none⟩) (Nat.succ_ne_self _) u⟩⟩
theorem CS.later {w W W' : World} {u0 u1 u2 u3 u4 u5 u6 u7 : Value} (h : CS w W u0 u1 u2 u3 u4 u5 u6 u7) (hb : Below W.heap.size W W') : CS w W' u0 u1 u2 u3 u4 u5 u6 u7 := by
  obtain ⟨f, F⟩ := h.box
  obtain ⟨g, G⟩ := h.res
  exact ⟨h.bel.trans (hb.mono h.bel.size), by have := h.lt; have := hb.size; omega, cell_later hb h.c0, cell_later hb h.c1, cell_later hb h.c2, cell_later hb h.c3, cell_later hb h.c4, cell_later hb h.c5, cell_later hb h.c6, cell_later hb h.c7, ⟨_, F.of_block (hb.block _ F.lt)⟩, ⟨_, G.of_block (hb.block _ G.lt)⟩⟩
theorem CS.grown {w W W' : World} {g : Nat} {u0 u1 u2 u3 u4 u5 u6 u7 : Value} (h : CS w W u0 u1 u2 u3 u4 u5 u6 u7) (hg : W.grownBy W' (some g)) (hr : w.heap.size + 1 < g) : CS w W' u0 u1 u2 u3 u4 u5 u6 u7 := by
  obtain ⟨f, F⟩ := h.box
  obtain ⟨k, G⟩ := h.res
  have n1 : some w.heap.size ≠ some g := fun e => by cases e; omega
  have n2 : some (w.heap.size + 1) ≠ some g := fun e => by injection e; omega
  exact ⟨Below.grown h.bel hg h.bel.size (fun k hk => by cases hk; omega), by have := h.lt; have := hg.size; omega, hg.cell h.c0 n1, hg.cell h.c1 n1, hg.cell h.c2 n1, hg.cell h.c3 n1, hg.cell h.c4 n1, hg.cell h.c5 n1, hg.cell h.c6 n1, hg.cell h.c7 n1, ⟨_, F.of_block (hg.block _ F.lt n1)⟩, ⟨_, G.of_block (hg.block _ G.lt n2)⟩⟩
theorem CS.new (w : World) (u0 u1 u2 u3 u4 u5 u6 u7 : Value) : CS w ((w.alloc (.cells #[u0, u1, u2, u3, u4, u5, u6, u7] 28)).alloc (.cells #[.slice none 0 0, .slice none 0 0, .int .i64 0, .int .i64 0, .int .i64 0, .bool false, .int .i64 0, .slice none 0 0] 28)) u0 u1 u2 u3 u4 u5 u6 u7 := by
  have q := row_any w #[u0, u1, u2, u3, u4, u5, u6, u7] 28
  have q' := row_any (w.alloc (.cells #[u0, u1, u2, u3, u4, u5, u6, u7] 28)) #[.slice none 0 0, .slice none 0 0, .int .i64 0, .int .i64 0, .int .i64 0, .bool false, .int .i64 0, .slice none 0 0] 28
  rw [World.size_alloc] at q'
  have b := bel_one (w.alloc (.cells #[u0, u1, u2, u3, u4, u5, u6, u7] 28)) (.cells #[.slice none 0 0, .slice none 0 0, .int .i64 0, .int .i64 0, .int .i64 0, .bool false, .int .i64 0, .slice none 0 0] 28)
  exact ⟨bel_after (bel_one _ _) b, by simp, cell_later b (cell_new w _ _ _ rfl 0 _ rfl), cell_later b (cell_new w _ _ _ rfl 1 _ rfl), cell_later b (cell_new w _ _ _ rfl 2 _ rfl), cell_later b (cell_new w _ _ _ rfl 3 _ rfl), cell_later b (cell_new w _ _ _ rfl 4 _ rfl), cell_later b (cell_new w _ _ _ rfl 5 _ rfl), cell_later b (cell_new w _ _ _ rfl 6 _ rfl), cell_later b (cell_new w _ _ _ rfl 7 _ rfl), ⟨_, q.of_block (b.block _ q.lt)⟩, ⟨_, q'⟩⟩

set_option maxRecDepth 100000 in
set_option maxHeartbeats 3200000 in
theorem l5Copy_any (v : Value) (h : Hp) (w : World) (hv : HR w v h) (hwo : h.words.length ≤ 1000000000000) (hro : h.roots.length ≤ 1000000000000) (hke : h.kept.length ≤ 1000000000000) :
    Calls Tryz.prog 72 #[v] w fun x w' => (∃ g1 d1 g2 d2 g3 d3, x = .returned (.agg #[.slice (some ⟨g1, 0, none⟩) h.words.length d1, .slice (some ⟨g2, 0, none⟩) h.roots.length d2, .int .i64 h.old, .int .i64 h.eden, .int .i64 h.surv, .bool h.flip, .int .i64 h.hash, .slice (some ⟨g3, 0, none⟩) h.kept.length d3]) ∧ (RI w' g1 h.words d1 ∧ RI w' g2 h.roots d2 ∧ RI w' g3 h.kept d3) ∧ (w.heap.size ≤ g1 ∧ g1 < g2 ∧ g2 < g3) ∧ (d1 ≤ maxLen ∧ d2 ≤ maxLen ∧ d3 ≤ maxLen)) ∧ Below w.heap.size w w' := by
  obtain ⟨v1, v2, v3, rfl, i1, i2, i3⟩ := id hv
  obtain ⟨a1, c1, rfl, -⟩ := IRs i1
  obtain ⟨a2, c2, rfl, -⟩ := IRs i2
  obtain ⟨a3, c3, rfl, -⟩ := IRs i3
  have S0 := (CS.new w (.slice a1 h.words.length c1) (.slice a2 h.roots.length c2) (.int .i64 h.old) (.int .i64 h.eden) (.int .i64 h.surv) (.bool h.flip) (.int .i64 h.hash) (.slice a3 h.kept.length c3)).later (bel_one _ (.cells #[] 2))
  have E1 : RI (((w.alloc (.cells #[.slice a1 h.words.length c1, .slice a2 h.roots.length c2, .int .i64 h.old, .int .i64 h.eden, .int .i64 h.surv, .bool h.flip, .int .i64 h.hash, .slice a3 h.kept.length c3] 28)).alloc (.cells #[.slice none 0 0, .slice none 0 0, .int .i64 0, .int .i64 0, .int .i64 0, .bool false, .int .i64 0, .slice none 0 0] 28)).alloc (.cells #[] 2)) (w.heap.size + 1 + 1) [] 0 := empty_at (by simp)
  have I1 := i1.later S0.bel
  have s0 : (((w.alloc (.cells #[.slice a1 h.words.length c1, .slice a2 h.roots.length c2, .int .i64 h.old, .int .i64 h.eden, .int .i64 h.surv, .bool h.flip, .int .i64 h.hash, .slice a3 h.kept.length c3] 28)).alloc (.cells #[.slice none 0 0, .slice none 0 0, .int .i64 0, .int .i64 0, .int .i64 0, .bool false, .int .i64 0, .slice none 0 0] 28)).alloc (.cells #[] 2)).heap.size = w.heap.size + 1 + 1 + 1 := by simp
  clear hv
  go_enter Tryz.func72, Tryz.ntmps72
  go_wp2_with (first
    | (at_builtin; refine app_ri _ rfl _ _ rfl (w.heap.size + 1 + 1) 0 0 [] rfl rfl E1 (Nat.zero_le _) (Nat.zero_le _) a1 c1 h.words.length h.words rfl rfl I1 hwo ?_; intro g1 d1 w1 P1 G1 wh1 mx1; rw [List.nil_append] at P1; rw [s0] at wh1; have lg1 := P1.lt; have sz1 := G1.size; rw [s0] at sz1; have ng1 : w.heap.size + 1 < g1 := (by rcases wh1 with e | e <;> omega); have S1 := S0.grown G1 (by omega); have S1' := (S1.set0 (.slice (some ⟨g1, 0, none⟩) h.words.length d1)).later (bel_one _ (.cells #[] 2)); have E2 : RI ((w1.setCell ⟨w.heap.size, 0, none⟩ (.slice (some ⟨g1, 0, none⟩) h.words.length d1)).alloc (.cells #[] 2)) w1.heap.size [] 0 := empty_at (by simp); have I2 := i2.later S1'.bel; have s1 : ((w1.setCell ⟨w.heap.size, 0, none⟩ (.slice (some ⟨g1, 0, none⟩) h.words.length d1)).alloc (.cells #[] 2)).heap.size = w1.heap.size + 1 := (by simp); have P1a := (P1.setOther (b := w.heap.size) (i := 0) (by omega) (.slice (some ⟨g1, 0, none⟩) h.words.length d1)).later (bel_one _ (.cells #[] 2)); clear P1 G1 wh1 I1 E1 S0; obtain ⟨f1, F1⟩ := S1.box; have fz1 := fun i => F1.frozen i; have x0 := S1.c0; have x1 := S1.c1; have lw1 : w.heap.size < w1.heap.size := (by omega); clear F1 S1)
    | (at_builtin; refine app_ri _ rfl _ _ rfl w1.heap.size 0 0 [] rfl rfl E2 (Nat.zero_le _) (Nat.zero_le _) a2 c2 h.roots.length h.roots rfl rfl I2 hro ?_; intro g2 d2 w2 P2 G2 wh2 mx2; rw [List.nil_append] at P2; rw [s1] at wh2; have lg2 := P2.lt; have sz2 := G2.size; rw [s1] at sz2; have ng2 : w1.heap.size ≤ g2 := (by rcases wh2 with e | e <;> omega); have S2 := S1'.grown G2 (by omega); have S2' := (S2.set1 (.slice (some ⟨g2, 0, none⟩) h.roots.length d2)).later (bel_one _ (.cells #[] 2)); have E3 : RI ((w2.setCell ⟨w.heap.size, 1, none⟩ (.slice (some ⟨g2, 0, none⟩) h.roots.length d2)).alloc (.cells #[] 2)) w2.heap.size [] 0 := empty_at (by simp); have I3 := i3.later S2'.bel; have s2 : ((w2.setCell ⟨w.heap.size, 1, none⟩ (.slice (some ⟨g2, 0, none⟩) h.roots.length d2)).alloc (.cells #[] 2)).heap.size = w2.heap.size + 1 := (by simp); have P1b := ((P1a.grown G2 (by simp <;> omega)).setOther (b := w.heap.size) (i := 1) (by omega) (.slice (some ⟨g2, 0, none⟩) h.roots.length d2)).later (bel_one _ (.cells #[] 2)); have P2a := (P2.setOther (b := w.heap.size) (i := 1) (by omega) (.slice (some ⟨g2, 0, none⟩) h.roots.length d2)).later (bel_one _ (.cells #[] 2)); clear P1a P2 G2 wh2 I2 E2 S1' x0 x1 fz1; obtain ⟨f2, F2⟩ := S2.box; have fz2 := fun i => F2.frozen i; have x1 := S2.c1; have x7 := S2.c7; have lw2 : w.heap.size < w2.heap.size := (by omega); clear F2 S2)
    | (at_builtin; refine app_ri _ rfl _ _ rfl w2.heap.size 0 0 [] rfl rfl E3 (Nat.zero_le _) (Nat.zero_le _) a3 c3 h.kept.length h.kept rfl rfl I3 hke ?_; intro g3 d3 w3 P3 G3 wh3 mx3; rw [List.nil_append] at P3; rw [s2] at wh3; have lg3 := P3.lt; have sz3 := G3.size; rw [s2] at sz3; have ng3 : w2.heap.size ≤ g3 := (by rcases wh3 with e | e <;> omega); have S3 := S2'.grown G3 (by omega); have P1c := P1b.grown G3 (by simp <;> omega); have P2b := P2a.grown G3 (by simp <;> omega); clear P1b P2a G3 wh3 I3 E3 S2' x1 x7 fz2; obtain ⟨f3, F3⟩ := S3.box; have fz3 := fun i => F3.frozen i; obtain ⟨k3, K3⟩ := S3.res; have fr3 := fun i => K3.frozen i; have r0 := K3.cell (i := 0) (by omega); have o0 := S3.c0; have r1 := K3.cell (i := 1) (by omega); have o1 := S3.c1; have r2 := K3.cell (i := 2) (by omega); have o2 := S3.c2; have r3 := K3.cell (i := 3) (by omega); have o3 := S3.c3; have r4 := K3.cell (i := 4) (by omega); have o4 := S3.c4; have r5 := K3.cell (i := 5) (by omega); have o5 := S3.c5; have r6 := K3.cell (i := 6) (by omega); have o6 := S3.c6; have r7 := K3.cell (i := 7) (by omega); have o7 := S3.c7; have lw3 : w.heap.size < w3.heap.size := (by omega); have lw3' : w.heap.size + 1 < w3.heap.size := (by omega); have bG3 := S3.bel; clear F3 K3 S3))
  have T1 : RI (((((((((w3.setCell ⟨w.heap.size, 7, none⟩ (.slice (some ⟨g3, 0, none⟩) h.kept.length d3)).setCell ⟨w.heap.size + 1, 0, none⟩ (.slice (some ⟨g1, 0, none⟩) h.words.length d1)).setCell ⟨w.heap.size + 1, 1, none⟩ (.slice (some ⟨g2, 0, none⟩) h.roots.length d2)).setCell ⟨w.heap.size + 1, 2, none⟩ (.int .i64 h.old)).setCell ⟨w.heap.size + 1, 3, none⟩ (.int .i64 h.eden)).setCell ⟨w.heap.size + 1, 4, none⟩ (.int .i64 h.surv)).setCell ⟨w.heap.size + 1, 5, none⟩ (.bool h.flip)).setCell ⟨w.heap.size + 1, 6, none⟩ (.int .i64 h.hash)).setCell ⟨w.heap.size + 1, 7, none⟩ (.slice (some ⟨g3, 0, none⟩) h.kept.length d3)) g1 h.words d1 := (RI.setOther (RI.setOther (RI.setOther (RI.setOther (RI.setOther (RI.setOther (RI.setOther (RI.setOther (P1c.setOther (b := w.heap.size) (i := 7) (by omega) (.slice (some ⟨g3, 0, none⟩) h.kept.length d3)) (by omega) _) (by omega) _) (by omega) _) (by omega) _) (by omega) _) (by omega) _) (by omega) _) (by omega) _)
  have T2 : RI (((((((((w3.setCell ⟨w.heap.size, 7, none⟩ (.slice (some ⟨g3, 0, none⟩) h.kept.length d3)).setCell ⟨w.heap.size + 1, 0, none⟩ (.slice (some ⟨g1, 0, none⟩) h.words.length d1)).setCell ⟨w.heap.size + 1, 1, none⟩ (.slice (some ⟨g2, 0, none⟩) h.roots.length d2)).setCell ⟨w.heap.size + 1, 2, none⟩ (.int .i64 h.old)).setCell ⟨w.heap.size + 1, 3, none⟩ (.int .i64 h.eden)).setCell ⟨w.heap.size + 1, 4, none⟩ (.int .i64 h.surv)).setCell ⟨w.heap.size + 1, 5, none⟩ (.bool h.flip)).setCell ⟨w.heap.size + 1, 6, none⟩ (.int .i64 h.hash)).setCell ⟨w.heap.size + 1, 7, none⟩ (.slice (some ⟨g3, 0, none⟩) h.kept.length d3)) g2 h.roots d2 := (RI.setOther (RI.setOther (RI.setOther (RI.setOther (RI.setOther (RI.setOther (RI.setOther (RI.setOther (P2b.setOther (b := w.heap.size) (i := 7) (by omega) (.slice (some ⟨g3, 0, none⟩) h.kept.length d3)) (by omega) _) (by omega) _) (by omega) _) (by omega) _) (by omega) _) (by omega) _) (by omega) _) (by omega) _)
  have T3 : RI (((((((((w3.setCell ⟨w.heap.size, 7, none⟩ (.slice (some ⟨g3, 0, none⟩) h.kept.length d3)).setCell ⟨w.heap.size + 1, 0, none⟩ (.slice (some ⟨g1, 0, none⟩) h.words.length d1)).setCell ⟨w.heap.size + 1, 1, none⟩ (.slice (some ⟨g2, 0, none⟩) h.roots.length d2)).setCell ⟨w.heap.size + 1, 2, none⟩ (.int .i64 h.old)).setCell ⟨w.heap.size + 1, 3, none⟩ (.int .i64 h.eden)).setCell ⟨w.heap.size + 1, 4, none⟩ (.int .i64 h.surv)).setCell ⟨w.heap.size + 1, 5, none⟩ (.bool h.flip)).setCell ⟨w.heap.size + 1, 6, none⟩ (.int .i64 h.hash)).setCell ⟨w.heap.size + 1, 7, none⟩ (.slice (some ⟨g3, 0, none⟩) h.kept.length d3)) g3 h.kept d3 := (RI.setOther (RI.setOther (RI.setOther (RI.setOther (RI.setOther (RI.setOther (RI.setOther (RI.setOther (P3.setOther (b := w.heap.size) (i := 7) (by omega) (.slice (some ⟨g3, 0, none⟩) h.kept.length d3)) (by omega) _) (by omega) _) (by omega) _) (by omega) _) (by omega) _) (by omega) _) (by omega) _) (by omega) _)
  have B9 : Below w.heap.size w (((((((((w3.setCell ⟨w.heap.size, 7, none⟩ (.slice (some ⟨g3, 0, none⟩) h.kept.length d3)).setCell ⟨w.heap.size + 1, 0, none⟩ (.slice (some ⟨g1, 0, none⟩) h.words.length d1)).setCell ⟨w.heap.size + 1, 1, none⟩ (.slice (some ⟨g2, 0, none⟩) h.roots.length d2)).setCell ⟨w.heap.size + 1, 2, none⟩ (.int .i64 h.old)).setCell ⟨w.heap.size + 1, 3, none⟩ (.int .i64 h.eden)).setCell ⟨w.heap.size + 1, 4, none⟩ (.int .i64 h.surv)).setCell ⟨w.heap.size + 1, 5, none⟩ (.bool h.flip)).setCell ⟨w.heap.size + 1, 6, none⟩ (.int .i64 h.hash)).setCell ⟨w.heap.size + 1, 7, none⟩ (.slice (some ⟨g3, 0, none⟩) h.kept.length d3)) := by
    repeat (refine Below.setCell ?_ (p := ⟨w.heap.size + 1, _, none⟩) (Nat.le_succ _) _)
    exact bG3.setCell (p := ⟨w.heap.size, 7, none⟩) (Nat.le_refl _) _
  exact bodyPost_ret (v := .agg #[.slice (some ⟨g1, 0, none⟩) h.words.length d1, .slice (some ⟨g2, 0, none⟩) h.roots.length d2, .int .i64 h.old, .int .i64 h.eden, .int .i64 h.surv, .bool h.flip, .int .i64 h.hash, .slice (some ⟨g3, 0, none⟩) h.kept.length d3]) (by simp [results, Tryz.results72, go_sem, r0, r1, r2, r3, r4, r5, r6, r7]) rfl ⟨⟨g1, d1, g2, d2, g3, d3, rfl, ⟨T1, T2, T3⟩, ⟨by omega, by omega, by omega⟩, mx1, mx2, mx3⟩, B9⟩

end Go.Proofs.YtgacacbncefeaaaGreat
