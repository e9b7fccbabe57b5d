/- Set of the program. -/
import Derived.Test.YtfbnjdlnmnhjoaaGreatZFKeep2
import Derived.Test.YtfbnjdlnmnhjoaaGreatZFList
import Derived.Test.YtfbnjdlnmnhjoaaGreatZFEl
import Derived.Test.YtfbnjdlnmnhjoaaGreatZMIAdd
import Derived.Test.YtfbnjdlnmnhjoaaGreatZMBox
namespace Go.Proofs.YtfbnjdlnmnhjoaaGreat
open Go.RowKit

/-- The box of a draft. -/
structure DX (W : World) (N : Nat) (u0 u1 u2 u3 u4 u5 u6 u7 u8 : Value) : Prop where
  c0 : W.cell? ⟨N, 0, none⟩ = some u0
  c1 : W.cell? ⟨N, 1, none⟩ = some u1
  c2 : W.cell? ⟨N, 2, none⟩ = some u2
  c3 : W.cell? ⟨N, 3, none⟩ = some u3
  c4 : W.cell? ⟨N, 4, none⟩ = some u4
  c5 : W.cell? ⟨N, 5, none⟩ = some u5
  c6 : W.cell? ⟨N, 6, none⟩ = some u6
  c7 : W.cell? ⟨N, 7, none⟩ = some u7
  c8 : W.cell? ⟨N, 8, none⟩ = some u8
  row : ∃ f, W.rowIs N 45 9 f
theorem DX.lt {W : World} {N : Nat} {u0 u1 u2 u3 u4 u5 u6 u7 u8 : Value} (h : DX W N u0 u1 u2 u3 u4 u5 u6 u7 u8) : N < W.heap.size := by
  obtain ⟨f, F⟩ := h.row
  exact F.lt
theorem DX.frozen {W : World} {N : Nat} {u0 u1 u2 u3 u4 u5 u6 u7 u8 : Value} (h : DX W N u0 u1 u2 u3 u4 u5 u6 u7 u8) (j : Nat) : W.frozen? ⟨N, j, none⟩ = false := by
  obtain ⟨f, F⟩ := h.row
  exact F.frozen j
theorem DX.block {W W' : World} {N : Nat} {u0 u1 u2 u3 u4 u5 u6 u7 u8 : Value} (h : DX W N u0 u1 u2 u3 u4 u5 u6 u7 u8) (hb : W'.heap[N]? = W.heap[N]?) : DX W' N u0 u1 u2 u3 u4 u5 u6 u7 u8 := by
  obtain ⟨f, F⟩ := h.row
  have e : ∀ o u, W.cell? ⟨N, o, none⟩ = some u → W'.cell? ⟨N, o, none⟩ = some u := fun o u q => (World.cell?_of_block (w := W) (a := ⟨N, o, none⟩) hb).trans q
  exact ⟨e _ _ h.c0, e _ _ h.c1, e _ _ h.c2, e _ _ h.c3, e _ _ h.c4, e _ _ h.c5, e _ _ h.c6, e _ _ h.c7, e _ _ h.c8, ⟨f, F.of_block hb⟩⟩
theorem DX.later {W W' : World} {N : Nat} {u0 u1 u2 u3 u4 u5 u6 u7 u8 : Value} (h : DX W N u0 u1 u2 u3 u4 u5 u6 u7 u8) (hb : Below W.heap.size W W') : DX W' N u0 u1 u2 u3 u4 u5 u6 u7 u8 := h.block (hb.block _ h.lt)
theorem DX.grown {W W' : World} {N : Nat} {r : Option Nat} {u0 u1 u2 u3 u4 u5 u6 u7 u8 : Value} (h : DX W N u0 u1 u2 u3 u4 u5 u6 u7 u8) (hg : W.grownBy W' r) (hr : some N ≠ r) : DX W' N u0 u1 u2 u3 u4 u5 u6 u7 u8 := h.block (hg.block _ h.lt hr)
theorem DX.set {W : World} {N b i : Nat} {u0 u1 u2 u3 u4 u5 u6 u7 u8 : Value} (h : DX W N u0 u1 u2 u3 u4 u5 u6 u7 u8) (hb : N ≠ b) (v : Value) : DX (W.setCell ⟨b, i, none⟩ v) N u0 u1 u2 u3 u4 u5 u6 u7 u8 := h.block (Below.heap_setCell _ _ _ _ hb)
theorem DX.set8 {W : World} {N : Nat} {u0 u1 u2 u3 u4 u5 u6 u7 u8 : Value} (h : DX W N u0 u1 u2 u3 u4 u5 u6 u7 u8) (v : Value) : DX (W.setCell ⟨N, 8, none⟩ v) N u0 u1 u2 u3 u4 u5 u6 u7 v := by
  obtain ⟨f, F⟩ := h.row
  have F' := F.set 8 v
  have e : ∀ o u, o ≠ 8 → W.cell? ⟨N, o, none⟩ = some u → (W.setCell ⟨N, 8, none⟩ v).cell? ⟨N, o, none⟩ = some u := fun o u ho q => by
    rw [World.cell?_setCell_other]
    · exact q
    · intro k
      simp at k <;> omega
  exact ⟨e _ _ (by omega) h.c0, e _ _ (by omega) h.c1, e _ _ (by omega) h.c2, e _ _ (by omega) h.c3, e _ _ (by omega) h.c4, e _ _ (by omega) h.c5, e _ _ (by omega) h.c6, e _ _ (by omega) h.c7, by rw [F'.cell (by omega), if_pos rfl], ⟨_, F'⟩⟩

theorem el_two {l : List Nat} {u : Value} {x : Int} {a : Nat} (ea : x / 2 = a) (k2 : kindW x = 2) (ev : elV l u x = .iface 69 (.agg #[u, .int .i64 a]) ∨ elV l u x = .iface 71 (.agg #[u, .int .i64 a])) :
    (elV l u x = .iface 69 (.agg #[u, .int .i64 a]) ∧ a < 2000) ∨ (elV l u x = .iface 71 (.agg #[u, .int .i64 a]) ∧ 2000 ≤ a) := by
  by_cases h : a < 2000
  · refine .inl ⟨?_, h⟩
    rcases ev with e | e
    · exact e
    · exfalso
      unfold elV at e
      by_cases f : fitB l x = true
      · rw [if_pos f, if_pos k2, if_neg (by omega : ¬ 2000 ≤ x / 2)] at e
        injection e with e1 e2
        exact absurd e1 (by decide)
      · rw [if_neg f] at e
        injection e with e1 e2
        exact absurd e1 (by decide)
  · refine .inr ⟨?_, by omega⟩
    rcases ev with e | e
    · exfalso
      unfold elV at e
      by_cases f : fitB l x = true
      · rw [if_pos f, if_pos k2, if_pos (by omega : 2000 ≤ x / 2)] at e
        injection e with e1 e2
        exact absurd e1 (by decide)
      · rw [if_neg f] at e
        injection e with e1 e2
        exact absurd e1 (by decide)
    · exact e

set_option maxRecDepth 100000 in
set_option maxHeartbeats 6400000 in
theorem implSet_c (v : Value) (h : Hp) (x i y : Int) (w : World) (hv : HR w v h) (hwo : h.words.length ≤ 1000000000000) (hro : h.roots.length ≤ 1000000000000) (hke : h.kept.length ≤ 1000000000000) :
    Calls Tryz.prog 7 #[v, .int .i64 x, .int .i64 i, .int .i64 y] w fun e w' => (∃ u, e = .returned (.tuple #[u, .bool (putB h x i y)]) ∧ HN w.heap.size w' u (putC h x i y)) ∧ Below w.heap.size w w' := by
  obtain ⟨v1, v2, v3, rfl, i1, i2, i3⟩ := id hv
  obtain ⟨a1, c1, rfl, -⟩ := IRs i1
  obtain ⟨a2, c2, rfl, -⟩ := IRs i2
  obtain ⟨a3, c3, rfl, -⟩ := IRs i3
  have hb0 : Below w.heap.size w ((w.alloc (.cells #[.slice a1 h.words.length c1, .slice a2 h.roots.length c2, .int .i64 h.old, .int .i64 h.eden, .int .i64 h.surv, .bool h.flip, .int .i64 h.hash, .slice a3 h.kept.length c3] 26)).alloc (.cells #[.slice none 0 0, .slice none 0 0, .int .i64 0, .int .i64 0, .int .i64 0, .bool false, .int .i64 0, .slice none 0 0] 26)) := bel_after (bel_one _ _) (bel_one _ _)
  obtain ⟨f, R0⟩ : ∃ f, ((w.alloc (.cells #[.slice a1 h.words.length c1, .slice a2 h.roots.length c2, .int .i64 h.old, .int .i64 h.eden, .int .i64 h.surv, .bool h.flip, .int .i64 h.hash, .slice a3 h.kept.length c3] 26)).alloc (.cells #[.slice none 0 0, .slice none 0 0, .int .i64 0, .int .i64 0, .int .i64 0, .bool false, .int .i64 0, .slice none 0 0] 26)).rowIs (w.heap.size + 1) 26 8 f := by
    have q := row_any (w.alloc (.cells #[.slice a1 h.words.length c1, .slice a2 h.roots.length c2, .int .i64 h.old, .int .i64 h.eden, .int .i64 h.surv, .bool h.flip, .int .i64 h.hash, .slice a3 h.kept.length c3] 26)) #[.slice none 0 0, .slice none 0 0, .int .i64 0, .int .i64 0, .int .i64 0, .bool false, .int .i64 0, .slice none 0 0] 26
    rw [World.size_alloc] at q
    exact ⟨_, q⟩
  have C := draftOf_c2 _ h _ (hv.later hb0) hwo hro hke
  clear i1 i2 i3
  go_enter Tryz.func7, Tryz.ntmps7
  go_wp2_with fail
  refine C.mono ?_
  rintro e w1 ⟨dr, hb1⟩
  have hbw1 := bel_after hb0 hb1
  have R1 := R0.of_block (hb1.block _ R0.lt)
  clear C R0
  rcases dr with ⟨hk, g1, g2, g3, oa, oc, rfl, ⟨q1, q2, q3⟩, ⟨l0, l1, l2⟩, io, farO, -⟩ | ⟨hk, rfl⟩
  case inr =>
    have AB : putB h x i y = false := by unfold putB; rw [hk]; rfl
    have al := bel_one w1 (.cells #[.slice none 0 0, .slice none 0 0, .slice none 0 0, .int .i64 0, .int .i64 0, .int .i64 0, .bool false, .int .i64 0, .slice none 0 0] 45)
    have hbA := bel_after hbw1 al
    have R2 := R1.of_block (al.block _ R1.lt)
    clear R1
    have r0 := R2.cell (i := 0) (by omega)
    have r1 := R2.cell (i := 1) (by omega)
    have r2 := R2.cell (i := 2) (by omega)
    have r3 := R2.cell (i := 3) (by omega)
    have r4 := R2.cell (i := 4) (by omega)
    have r5 := R2.cell (i := 5) (by omega)
    have r6 := R2.cell (i := 6) (by omega)
    have r7 := R2.cell (i := 7) (by omega)
    have fR := fun i => R2.frozen i
    have ltR := R2.lt
    have B9 : Below w.heap.size w (((((((((w1.alloc (.cells #[.slice none 0 0, .slice none 0 0, .slice none 0 0, .int .i64 0, .int .i64 0, .int .i64 0, .bool false, .int .i64 0, .slice none 0 0] 45)).setCell ⟨w.heap.size + 1, 0, none⟩ (.slice none 0 0)).setCell ⟨w.heap.size + 1, 1, none⟩ (.slice none 0 0)).setCell ⟨w.heap.size + 1, 2, none⟩ (.int .i64 0)).setCell ⟨w.heap.size + 1, 3, none⟩ (.int .i64 0)).setCell ⟨w.heap.size + 1, 4, none⟩ (.int .i64 0)).setCell ⟨w.heap.size + 1, 5, none⟩ (.bool false)).setCell ⟨w.heap.size + 1, 6, none⟩ (.int .i64 0)).setCell ⟨w.heap.size + 1, 7, none⟩ (.slice none 0 0)) := by
      repeat (refine Below.setCell ?_ (p := ⟨w.heap.size + 1, _, none⟩) (Nat.le_succ _) _)
      exact hbA
    go_wp2
    exact bodyPost_ret (v := .tuple #[.agg #[.slice none 0 0, .slice none 0 0, .int .i64 0, .int .i64 0, .int .i64 0, .bool false, .int .i64 0, .slice none 0 0], .bool false]) (by simp [results, Tryz.results7, go_sem, r0, r1, r2, r3, r4, r5, r6, r7]) rfl ⟨⟨_, zero_ret AB (put_no AB)⟩, B9⟩
  have al := bel_one w1 (.cells #[.slice (some ⟨g1, 0, none⟩) h.words.length h.words.length, .slice oa (obC h).length oc, .slice (some ⟨g2, 0, none⟩) h.roots.length h.roots.length, .int .i64 h.old, .int .i64 h.eden, .int .i64 h.surv, .bool h.flip, .int .i64 h.hash, .slice (some ⟨g3, 0, none⟩) h.kept.length h.kept.length] 45)
  have R2 := R1.of_block (al.block _ R1.lt)
  obtain ⟨fd, D2⟩ : ∃ fd, (w1.alloc (.cells #[.slice (some ⟨g1, 0, none⟩) h.words.length h.words.length, .slice oa (obC h).length oc, .slice (some ⟨g2, 0, none⟩) h.roots.length h.roots.length, .int .i64 h.old, .int .i64 h.eden, .int .i64 h.surv, .bool h.flip, .int .i64 h.hash, .slice (some ⟨g3, 0, none⟩) h.kept.length h.kept.length] 45)).rowIs w1.heap.size 45 9 fd := ⟨_, row_any w1 #[.slice (some ⟨g1, 0, none⟩) h.words.length h.words.length, .slice oa (obC h).length oc, .slice (some ⟨g2, 0, none⟩) h.roots.length h.roots.length, .int .i64 h.old, .int .i64 h.eden, .int .i64 h.surv, .bool h.flip, .int .i64 h.hash, .slice (some ⟨g3, 0, none⟩) h.kept.length h.kept.length] 45⟩
  have OS := ok_sorted hk
  have OL : (obC h).length ≤ 1000000000 := by have := ob_short h; omega
  have FT := draftFits_any (some ⟨g1, 0, none⟩) oa h.words.length h.words.length oc (obC h) y _ (io.later al) OS OL
  go_wp2_with fail
  refine FT.mono ?_
  rintro e w2 ⟨rfl, hb2⟩
  have hb12 := bel_after al hb2
  have l0' : w.heap.size + 1 + 1 ≤ g1 := by simpa using l0
  have hbw2 := bel_after hbw1 hb12
  have R3 := R2.of_block (hb2.block _ R2.lt)
  have D3 : DX w2 w1.heap.size (.slice (some ⟨g1, 0, none⟩) h.words.length h.words.length) (.slice oa (obC h).length oc) (.slice (some ⟨g2, 0, none⟩) h.roots.length h.roots.length) (.int .i64 h.old) (.int .i64 h.eden) (.int .i64 h.surv) (.bool h.flip) (.int .i64 h.hash) (.slice (some ⟨g3, 0, none⟩) h.kept.length h.kept.length) := ⟨cell_later hb2 (cell_new w1 _ _ _ rfl 0 _ rfl), cell_later hb2 (cell_new w1 _ _ _ rfl 1 _ rfl), cell_later hb2 (cell_new w1 _ _ _ rfl 2 _ rfl), cell_later hb2 (cell_new w1 _ _ _ rfl 3 _ rfl), cell_later hb2 (cell_new w1 _ _ _ rfl 4 _ rfl), cell_later hb2 (cell_new w1 _ _ _ rfl 5 _ rfl), cell_later hb2 (cell_new w1 _ _ _ rfl 6 _ rfl), cell_later hb2 (cell_new w1 _ _ _ rfl 7 _ rfl), cell_later hb2 (cell_new w1 _ _ _ rfl 8 _ rfl), ⟨fd, D2.of_block (hb2.block _ D2.lt)⟩⟩
  have ltg1 := q1.lt
  have ltg2 := q2.lt
  have ltg3 := q3.lt
  clear R1 R2 D2 FT hb2 l0 al
  cases hft : fitB (obC h) y
  · have AB : putB h x i y = false := by unfold putB; rw [hk, hft]; rfl
    obtain ⟨d0, d1, d2, d3, d4, d5, d6, d7, d8, -⟩ := D3
    have r0 := R3.cell (i := 0) (by omega)
    have r1 := R3.cell (i := 1) (by omega)
    have r2 := R3.cell (i := 2) (by omega)
    have r3 := R3.cell (i := 3) (by omega)
    have r4 := R3.cell (i := 4) (by omega)
    have r5 := R3.cell (i := 5) (by omega)
    have r6 := R3.cell (i := 6) (by omega)
    have r7 := R3.cell (i := 7) (by omega)
    have fR := fun i => R3.frozen i
    have ltR := R3.lt
    have B9 : Below w.heap.size w ((((((((w2.setCell ⟨w.heap.size + 1, 0, none⟩ (.slice none 0 0)).setCell ⟨w.heap.size + 1, 1, none⟩ (.slice none 0 0)).setCell ⟨w.heap.size + 1, 2, none⟩ (.int .i64 0)).setCell ⟨w.heap.size + 1, 3, none⟩ (.int .i64 0)).setCell ⟨w.heap.size + 1, 4, none⟩ (.int .i64 0)).setCell ⟨w.heap.size + 1, 5, none⟩ (.bool false)).setCell ⟨w.heap.size + 1, 6, none⟩ (.int .i64 0)).setCell ⟨w.heap.size + 1, 7, none⟩ (.slice none 0 0)) := by
      repeat (refine Below.setCell ?_ (p := ⟨w.heap.size + 1, _, none⟩) (Nat.le_succ _) _)
      exact hbw2
    go_wp2
    exact bodyPost_ret (v := .tuple #[.agg #[.slice none 0 0, .slice none 0 0, .int .i64 0, .int .i64 0, .int .i64 0, .bool false, .int .i64 0, .slice none 0 0], .bool false]) (by simp [results, Tryz.results7, go_sem, r0, r1, r2, r3, r4, r5, r6, r7]) rfl ⟨⟨_, zero_ret AB (put_no AB)⟩, B9⟩
  have EL := elementOf_any (some ⟨g1, 0, none⟩) oa h.words.length h.words.length oc (obC h) x w2 (io.later hb12) OS OL
  have EE : elW h (.slice (some ⟨g1, 0, none⟩) h.words.length h.words.length) x = elV (obC h) (.slice (some ⟨g1, 0, none⟩) h.words.length h.words.length) x := by unfold elW; rw [hk]; rfl
  obtain ⟨d0, d1, d2, d3, d4, d5, d6, d7, d8, -⟩ := id D3
  rcases el_cases h (.slice (some ⟨g1, 0, none⟩) h.words.length h.words.length) x with ⟨ev, n, _⟩ | ⟨_, ev, n, _⟩ | ⟨_, r, a, ha, ea, k2, ev⟩
  · have AB : putB h x i y = false := by
      rw [hk, Bool.and_true] at n
      unfold putB
      rw [hk, hft, n]
      rfl
    rw [EE] at ev
    clear EE n
    have HP := fun W => hasPlace_any none 0 0 i W
    rw [decide_eq_false (by omega)] at HP
    rw [ev] at EL
    have hm := mNF
    clear ev
    go_wp2_with fail
    refine EL.mono ?_
    rintro e w3 ⟨rfl, hb3⟩
    have R4 := R3.of_block (hb3.block _ R3.lt)
    have hbw3 := bel_after hbw2 hb3
    go_wp2_with fail
    refine (noneF_any _).mono ?_
    rintro e w4 ⟨rfl, hb4⟩
    have R5 := R4.of_block (hb4.block _ R4.lt)
    have hbw4 := bel_after hbw3 hb4
    clear EL hm
    have r0 := R5.cell (i := 0) (by omega)
    have r1 := R5.cell (i := 1) (by omega)
    have r2 := R5.cell (i := 2) (by omega)
    have r3 := R5.cell (i := 3) (by omega)
    have r4 := R5.cell (i := 4) (by omega)
    have r5 := R5.cell (i := 5) (by omega)
    have r6 := R5.cell (i := 6) (by omega)
    have r7 := R5.cell (i := 7) (by omega)
    have fR := fun i => R5.frozen i
    have ltR := R5.lt
    have B9 : Below w.heap.size w ((((((((w4.setCell ⟨w.heap.size + 1, 0, none⟩ (.slice none 0 0)).setCell ⟨w.heap.size + 1, 1, none⟩ (.slice none 0 0)).setCell ⟨w.heap.size + 1, 2, none⟩ (.int .i64 0)).setCell ⟨w.heap.size + 1, 3, none⟩ (.int .i64 0)).setCell ⟨w.heap.size + 1, 4, none⟩ (.int .i64 0)).setCell ⟨w.heap.size + 1, 5, none⟩ (.bool false)).setCell ⟨w.heap.size + 1, 6, none⟩ (.int .i64 0)).setCell ⟨w.heap.size + 1, 7, none⟩ (.slice none 0 0)) := by
      repeat (refine Below.setCell ?_ (p := ⟨w.heap.size + 1, _, none⟩) (Nat.le_succ _) _)
      exact hbw4
    go_wp2_with (go_at_call 23; refine (HP _).mono ?_; rintro e wq ⟨rfl, hq⟩; obtain rfl := hq.symm)
    exact bodyPost_ret (v := .tuple #[.agg #[.slice none 0 0, .slice none 0 0, .int .i64 0, .int .i64 0, .int .i64 0, .bool false, .int .i64 0, .slice none 0 0], .bool false]) (by simp [results, Tryz.results7, go_sem, r0, r1, r2, r3, r4, r5, r6, r7]) rfl ⟨⟨_, zero_ret AB (put_no AB)⟩, B9⟩
  · have AB : putB h x i y = false := by
      unfold putB
      rw [hk, hft, n]
      rfl
    rw [EE] at ev
    clear EE n
    have HP := fun W => hasPlace_any none 0 0 i W
    rw [decide_eq_false (by omega)] at HP
    rw [ev] at EL
    have hm := mUF
    clear ev
    go_wp2_with fail
    refine EL.mono ?_
    rintro e w3 ⟨rfl, hb3⟩
    have R4 := R3.of_block (hb3.block _ R3.lt)
    have hbw3 := bel_after hbw2 hb3
    go_wp2_with fail
    refine (numF_any _).mono ?_
    rintro e w4 ⟨rfl, hb4⟩
    have R5 := R4.of_block (hb4.block _ R4.lt)
    have hbw4 := bel_after hbw3 hb4
    clear EL hm
    have r0 := R5.cell (i := 0) (by omega)
    have r1 := R5.cell (i := 1) (by omega)
    have r2 := R5.cell (i := 2) (by omega)
    have r3 := R5.cell (i := 3) (by omega)
    have r4 := R5.cell (i := 4) (by omega)
    have r5 := R5.cell (i := 5) (by omega)
    have r6 := R5.cell (i := 6) (by omega)
    have r7 := R5.cell (i := 7) (by omega)
    have fR := fun i => R5.frozen i
    have ltR := R5.lt
    have B9 : Below w.heap.size w ((((((((w4.setCell ⟨w.heap.size + 1, 0, none⟩ (.slice none 0 0)).setCell ⟨w.heap.size + 1, 1, none⟩ (.slice none 0 0)).setCell ⟨w.heap.size + 1, 2, none⟩ (.int .i64 0)).setCell ⟨w.heap.size + 1, 3, none⟩ (.int .i64 0)).setCell ⟨w.heap.size + 1, 4, none⟩ (.int .i64 0)).setCell ⟨w.heap.size + 1, 5, none⟩ (.bool false)).setCell ⟨w.heap.size + 1, 6, none⟩ (.int .i64 0)).setCell ⟨w.heap.size + 1, 7, none⟩ (.slice none 0 0)) := by
      repeat (refine Below.setCell ?_ (p := ⟨w.heap.size + 1, _, none⟩) (Nat.le_succ _) _)
      exact hbw4
    go_wp2_with (go_at_call 23; refine (HP _).mono ?_; rintro e wq ⟨rfl, hq⟩; obtain rfl := hq.symm)
    exact bodyPost_ret (v := .tuple #[.agg #[.slice none 0 0, .slice none 0 0, .int .i64 0, .int .i64 0, .int .i64 0, .bool false, .int .i64 0, .slice none 0 0], .bool false]) (by simp [results, Tryz.results7, go_sem, r0, r1, r2, r3, r4, r5, r6, r7]) rfl ⟨⟨_, zero_ret AB (put_no AB)⟩, B9⟩
  · have RG := c_right hk
    obtain ⟨q1', q2', q3'⟩ := RG.1.obj ha
    have q4' := size_of q3'
    have hl : Hid (h.words.length = 3200) := RG.1.1
    have PN : Hid (¬ (0 ≤ i ∧ i < gw h.words a) → putB h x i y = false) := (fun q => by unfold putB; rw [hk, hft, r, ea]; exact decide_eq_false q : ¬ (0 ≤ i ∧ i < gw h.words a) → putB h x i y = false)
    have PY : Hid ((0 ≤ i ∧ i < gw h.words a) → putB h x i y = true) := (fun q => by unfold putB; rw [hk, hft, r, ea]; exact decide_eq_true q : (0 ≤ i ∧ i < gw h.words a) → putB h x i y = true)
    have PL : Hid (∀ k : Nat, 0 ≤ (k : Int) ∧ (k : Int) < gw h.words a → a + 4 + k < 3200) := (fun k q => (put_lt RG ha q.2).2 : ∀ k : Nat, 0 ≤ (k : Int) ∧ (k : Int) < gw h.words a → a + 4 + k < 3200)
    have OF := fun W hb => objF_any g1 0 h.words.length h.words a W ((fun j hj => by rw [Nat.zero_add]; exact (q1.later hb).cell hj : WS W g1 0 h.words)) RG.1.1 (by rw [hl.out]; exact Nat.le_refl _) q1' q4' q2'
    have MU : Hid (∀ k : Nat, 0 ≤ (k : Int) ∧ (k : Int) < gw h.words a → (h.words.set (a + 4 + k) y).length = 3200 ∧ (0 ≤ gw (h.words.set (a + 4 + k) y) a ∧ gw (h.words.set (a + 4 + k) y) a ≤ 60) ∧ nx (h.words.set (a + 4 + k) y) a ≤ 3200 ∧ (∀ z, z ∈ flds (h.words.set (a + 4 + k) y) a → fitB (obC h) z = true) ∧ True) := (fun k q => by
      have PR := put_right RG ha q.2 y hft
      have ob := PR.1.obj ha
      refine ⟨by rw [List.length_set]; exact RG.1.1, size_of ob.2.2, ob.2.1, ?_, trivial⟩
      exact (fld_mem (p := fitB (obC h))).2 (PR.2.2.2.2.2.2.2.1 a ha) : ∀ k : Nat, 0 ≤ (k : Int) ∧ (k : Int) < gw h.words a → (h.words.set (a + 4 + k) y).length = 3200 ∧ (0 ≤ gw (h.words.set (a + 4 + k) y) a ∧ gw (h.words.set (a + 4 + k) y) a ≤ 60) ∧ nx (h.words.set (a + 4 + k) y) a ≤ 3200 ∧ (∀ z, z ∈ flds (h.words.set (a + 4 + k) y) a → fitB (obC h) z = true) ∧ True)
    have KS := kept_sorted RG
    have KL : h.kept.length ≤ 1000000 := by have := kept_short RG; omega
    have KK : Hid (∀ k : Nat, 0 ≤ (k : Int) ∧ (k : Int) < gw h.words a → ∀ bb, bb = (decide (a < 2000) && hasY (h.words.set (a + 4 + k) y) a) → Hid ((putH h a k y).kept.length = (lw h.kept a bb).length) ∧ Hid (∀ W g c, RI W g (lw h.kept a bb) c → RI W g (putH h a k y).kept c)) := (fun k q bb e => by
      have E := lw_kept RG ha q.2 y
      rw [← e] at E
      exact ⟨by rw [E]; rfl, fun W g c R => by rw [E] at R; exact R⟩ : ∀ k : Nat, 0 ≤ (k : Int) ∧ (k : Int) < gw h.words a → ∀ bb, bb = (decide (a < 2000) && hasY (h.words.set (a + 4 + k) y) a) → Hid ((putH h a k y).kept.length = (lw h.kept a bb).length) ∧ Hid (∀ W g c, RI W g (lw h.kept a bb) c → RI W g (putH h a k y).kept c))
    have OF1 : ∀ (ad : Addr) (n c : Nat), Value.slice oa (obC h).length oc = .slice (some ad) n c → 0 < n → ad.block ≠ g1 := fun ad n c e hn => by have := farO ad n c e hn; omega
    rw [EE] at ev
    have A2 : Hid ((elV (obC h) (.slice (some ⟨g1, 0, none⟩) h.words.length h.words.length) x = .iface 69 (.agg #[.slice (some ⟨g1, 0, none⟩) h.words.length h.words.length, .int .i64 a]) ∧ a < 2000) ∨ (elV (obC h) (.slice (some ⟨g1, 0, none⟩) h.words.length h.words.length) x = .iface 71 (.agg #[.slice (some ⟨g1, 0, none⟩) h.words.length h.words.length, .int .i64 a]) ∧ 2000 ≤ a)) := el_two ea k2 ev
    rw [hl.out] at EL D3 OF A2
    rw [hl.out] at d0
    clear EE ev RG
    generalize elV (obC h) (.slice (some ⟨g1, 0, none⟩) 3200 3200) x = evv at *
    rcases A2 with ⟨ev, a2⟩ | ⟨ev, a2⟩
    · rw [ev] at EL
      have hm := mOF (.slice (some ⟨g1, 0, none⟩) 3200 3200) a
      clear ev
      go_wp2_with fail
      refine EL.mono ?_
      rintro e w3 ⟨rfl, hb3⟩
      have R4 := R3.of_block (hb3.block _ R3.lt)
      have hbw3 := bel_after hbw2 hb3
      have b13 := bel_after hb12 hb3
      go_wp2_with fail
      refine (OF _ b13).mono ?_
      rintro e w4 ⟨⟨q, c, rfl, hc, hq⟩, hb4⟩
      have R5 := R4.of_block (hb4.block _ R4.lt)
      have hbw4 := bel_after hbw3 hb4
      have b14 := bel_after b13 hb4
      have HP := fun W => hasPlace_any (some ⟨g1, q, none⟩) (gw h.words a).toNat c i W
      by_cases hi : 0 ≤ i ∧ i < gw h.words a
      case neg =>
        have AB := PN.out hi
        rw [decide_eq_false (by omega)] at HP
        clear OF EL hm hc hq PY PN
        have r0 := R5.cell (i := 0) (by omega)
        have r1 := R5.cell (i := 1) (by omega)
        have r2 := R5.cell (i := 2) (by omega)
        have r3 := R5.cell (i := 3) (by omega)
        have r4 := R5.cell (i := 4) (by omega)
        have r5 := R5.cell (i := 5) (by omega)
        have r6 := R5.cell (i := 6) (by omega)
        have r7 := R5.cell (i := 7) (by omega)
        have fR := fun i => R5.frozen i
        have ltR := R5.lt
        have B9 : Below w.heap.size w ((((((((w4.setCell ⟨w.heap.size + 1, 0, none⟩ (.slice none 0 0)).setCell ⟨w.heap.size + 1, 1, none⟩ (.slice none 0 0)).setCell ⟨w.heap.size + 1, 2, none⟩ (.int .i64 0)).setCell ⟨w.heap.size + 1, 3, none⟩ (.int .i64 0)).setCell ⟨w.heap.size + 1, 4, none⟩ (.int .i64 0)).setCell ⟨w.heap.size + 1, 5, none⟩ (.bool false)).setCell ⟨w.heap.size + 1, 6, none⟩ (.int .i64 0)).setCell ⟨w.heap.size + 1, 7, none⟩ (.slice none 0 0)) := by
          repeat (refine Below.setCell ?_ (p := ⟨w.heap.size + 1, _, none⟩) (Nat.le_succ _) _)
          exact hbw4
        go_wp2_with (go_at_call 23; refine (HP _).mono ?_; rintro e wq ⟨rfl, hq⟩; obtain rfl := hq.symm)
        exact bodyPost_ret (v := .tuple #[.agg #[.slice none 0 0, .slice none 0 0, .int .i64 0, .int .i64 0, .int .i64 0, .bool false, .int .i64 0, .slice none 0 0], .bool false]) (by simp [results, Tryz.results7, go_sem, r0, r1, r2, r3, r4, r5, r6, r7]) rfl ⟨⟨_, zero_ret AB (put_no AB)⟩, B9⟩
      have AB := PY.out hi
      obtain ⟨k, rfl⟩ : ∃ k : Nat, i = k := ⟨i.toNat, by omega⟩
      rw [decide_eq_true (by omega)] at HP
      have D4 := D3.later (bel_after hb3 hb4)
      have OF5 := OF w4 b14
      replace hi : Hid (0 ≤ (k : Int) ∧ (k : Int) < gw h.words a) := hi
      clear EL PN PY OF
      go_wp2_with (go_at_call 23; refine (HP _).mono ?_; rintro e wq ⟨rfl, hq⟩; obtain rfl := hq.symm)
      refine OF5.mono ?_
      rintro e w5 ⟨⟨q5, c5, rfl, hc5, hq5⟩, hb5⟩
      obtain rfl : q5 = 0 + (a + 4) := hq5.resolve_left (by have := hi.out; omega)
      rw [Nat.zero_add]
      have b15 := bel_after b14 hb5
      have hbw5 := bel_after hbw4 hb5
      have R6 := R5.of_block (hb5.block _ R5.lt)
      have D5 := D4.later hb5
      have P1 := q1.later b15
      have P2 := q2.later b15
      have P3 := q3.later b15
      have hk3 := PL.out k hi.out
      have pc := P1.cell (i := a + 4 + k) (by rw [hl.out]; omega)
      have pf := fun j => P1.frozen j
      have RO := fun W => implRefOf_any x W
      rw [show valK 2 x = a from by unfold valK; rw [if_pos k2, ea], show isK 2 x = true from decide_eq_true k2] at RO
      have kn : k < (gw h.words a).toNat := by have := hi.out; omega
      have kni : (k : Int) < (gw h.words a).toNat := by omega
      have S1 := P1.set (a + 4 + k) y
      have S2 := P2.setOther (b := g1) (i := a + 4 + k) (by omega) (.int .i64 y)
      have S3 := P3.setOther (b := g1) (i := a + 4 + k) (by omega) (.int .i64 y)
      have R7 := R6.setOther (a := ⟨g1, a + 4 + k, none⟩) (by show w.heap.size + 1 ≠ g1; omega) (.int .i64 y)
      have D7 := D5.set (b := g1) (i := a + 4 + k) (by omega) (.int .i64 y)
      have IO5 := IR.setOther (b := g1) (i := a + 4 + k) (io.later b15) OF1 (.int .i64 y)
      have hb7 := hbw5.setCell (p := ⟨g1, a + 4 + k, none⟩) (by show w.heap.size ≤ g1; omega) (.int .i64 y)
      generalize h.words.getD (a + 4 + k) 0 = y0 at *
      generalize (gw h.words a).toNat = nn at *
      clear P1 P2 P3 R3 R4 R5 R6 D3 D4 D5 hq hq5 hc
      go_wp2_with (first | (go_at_call 23; refine (HP _).mono ?_; rintro e wq ⟨rfl, hq⟩; obtain rfl := hq.symm) | (go_at_call 24; refine (RO _).mono ?_; rintro e wq ⟨rfl, hq⟩; obtain rfl := hq.symm))
      have lt5 : w1.heap.size < w5.heap.size := by have := D7.lt; simpa using this
      have lg1 := S1.lt
      have lg2 := S2.lt
      have lg3 := S3.lt
      refine Disk.z_plain 9 (fun W' => DX W' w1.heap.size (.slice (some ⟨g1, 0, none⟩) 3200 3200) (.slice oa (obC h).length oc) (.slice (some ⟨g2, 0, none⟩) h.roots.length h.roots.length) (.int .i64 h.old) (.int .i64 h.eden) (.int .i64 h.surv) (.bool h.flip) (.int .i64 h.hash) (.slice (some ⟨g3, 0, none⟩) h.kept.length h.kept.length)) (by kernel_rfl) (D7.later (Below.refl _ _).drew) fun hs => ?_
      refine Disk.z_take 0 50 (v := .pointer (some ⟨w1.heap.size, 8, none⟩)) rfl rfl (by kernel_rfl) (by kernel_rfl) (by kernel_rfl) (by kernel_rfl) (by rfl) hs (fun W' hSw => (by
        obtain ⟨s0, s1, s2, s3, s4, s5, s6, s7, s8, -⟩ := hSw
        go_simp; first | done | with_reducible rfl)) ?_
      simp only [List.setIfInBounds_toArray, List.set_cons_zero, List.set_cons_succ]
      refine Disk.z_take 1 51 (v := .slice (some ⟨g3, 0, none⟩) h.kept.length h.kept.length) rfl rfl (by kernel_rfl) (by kernel_rfl) (by kernel_rfl) (by kernel_rfl) (by rfl) hs (fun W' hSw => (by
        obtain ⟨s0, s1, s2, s3, s4, s5, s6, s7, s8, -⟩ := hSw
        go_simp; first | done | with_reducible rfl)) ?_
      simp only [List.setIfInBounds_toArray, List.set_cons_zero, List.set_cons_succ]
      refine Disk.z_take 2 52 (v := .int .i64 a) rfl rfl (by kernel_rfl) (by kernel_rfl) (by kernel_rfl) (by kernel_rfl) (by rfl) hs (fun W' hSw => (by
        obtain ⟨s0, s1, s2, s3, s4, s5, s6, s7, s8, -⟩ := hSw
        go_simp; first | done | with_reducible rfl)) ?_
      simp only [List.setIfInBounds_toArray, List.set_cons_zero, List.set_cons_succ]
      refine Disk.z_take 3 53 (v := .pointer (some ⟨w1.heap.size, 0, none⟩)) rfl rfl (by kernel_rfl) (by kernel_rfl) (by kernel_rfl) (by kernel_rfl) (by rfl) hs (fun W' hSw => (by
        obtain ⟨s0, s1, s2, s3, s4, s5, s6, s7, s8, -⟩ := hSw
        go_simp; first | done | with_reducible rfl)) ?_
      simp only [List.setIfInBounds_toArray, List.set_cons_zero, List.set_cons_succ]
      refine Disk.z_take 4 54 (v := .agg #[.slice (some ⟨g1, 0, none⟩) 3200 3200, .slice oa (obC h).length oc]) rfl rfl (by kernel_rfl) (by kernel_rfl) (by kernel_rfl) (by kernel_rfl) (by rfl) hs (fun W' hSw => (by
        obtain ⟨s0, s1, s2, s3, s4, s5, s6, s7, s8, -⟩ := hSw
        go_simp; first | done | with_reducible rfl)) ?_
      simp only [List.setIfInBounds_toArray, List.set_cons_zero, List.set_cons_succ]
      refine Disk.z_take 5 55 (v := .iface 69 (.agg #[.slice (some ⟨g1, 0, none⟩) 3200 3200, .int .i64 a])) rfl rfl (by kernel_rfl) (by kernel_rfl) (by kernel_rfl) (by kernel_rfl) (by rfl) hs (fun W' hSw => (by
        obtain ⟨s0, s1, s2, s3, s4, s5, s6, s7, s8, -⟩ := hSw
        go_simp; first | done | with_reducible rfl)) ?_
      simp only [List.setIfInBounds_toArray, List.set_cons_zero, List.set_cons_succ]
      refine Disk.z_call 6 56 rfl rfl (by kernel_rfl) (by rfl) (f := 26) (args := #[.agg #[.slice (some ⟨g1, 0, none⟩) 3200 3200, .slice oa (obC h).length oc], .iface 69 (.agg #[.slice (some ⟨g1, 0, none⟩) 3200 3200, .int .i64 a])]) (w0 := (w5.setCell ⟨g1, a + 4 + k, none⟩ (.int .i64 y)).drew) (by go_simp) ?_
      have WSS : WS (w5.setCell ⟨g1, a + 4 + k, none⟩ (.int .i64 y)) g1 0 (h.words.set (a + 4 + k) y) := fun j hj => by rw [Nat.zero_add]; exact S1.cell hj
      obtain ⟨mo1, mo2, mo3, mo4, mo5⟩ := MU.out k hi.out
      obtain ⟨bb, hbb⟩ : ∃ bb, bb = hasY (h.words.set (a + 4 + k) y) a := ⟨_, rfl⟩
      obtain ⟨KE, KR⟩ := KK.out k hi.out bb (by rw [hbb, decide_eq_true (by omega : a < 2000)]; rfl)
      have MK := mustOld_any g1 3200 oa oc (obC h) (h.words.set (a + 4 + k) y) a _ (WSS.later (Below.refl _ _).drew) mo1 (Nat.le_refl _) q1' mo2 mo3 (IO5.later (Below.refl _ _).drew) OS OL mo4
      rw [← hbb] at MK
      refine MK.mono ?_
      rintro e w6 ⟨rfl, hb6⟩
      have b56 : Below (w5.setCell ⟨g1, a + 4 + k, none⟩ (.int .i64 y)).heap.size (w5.setCell ⟨g1, a + 4 + k, none⟩ (.int .i64 y)) w6 := bel_after (Below.refl _ _).drew hb6
      have D8 := D7.later b56
      refine ⟨_, rfl, .inr D8, ?_⟩
      simp only [List.setIfInBounds_toArray, List.set_cons_zero, List.set_cons_succ]
      have S1' := S1.later b56
      have S2' := S2.later b56
      have S3' := S3.later b56
      have R8 := R7.of_block (b56.block _ R7.lt)
      have hbw6 := hb7.trans (b56.mono hb7.size)
      refine Disk.z_call 7 57 rfl rfl (by kernel_rfl) (by rfl) (f := 25) (args := #[.slice (some ⟨g3, 0, none⟩) h.kept.length h.kept.length, .int .i64 a, .bool bb]) (w0 := w6) (by go_simp) ?_
      refine (listWith_any g3 h.kept a bb w6 S3' KS KL).mono ?_
      rintro e w7 ⟨⟨g', n', c', rfl, hn', R3', wh⟩, G7⟩
      have szs : (w5.setCell ⟨g1, a + 4 + k, none⟩ (.int .i64 y)).heap.size = w5.heap.size := by simp
      have le6 : w5.heap.size ≤ w6.heap.size := by have := b56.size; omega
      rw [szs] at lg1 lg2 lg3
      have ng : g' ≠ w1.heap.size ∧ g' ≠ w.heap.size + 1 ∧ g1 ≠ g' ∧ g2 ≠ g' ∧ w.heap.size ≤ g' := by
        rcases wh with e | e <;> omega
      obtain ⟨ng1, ng2, ng3, ng4, ng5⟩ := ng
      have D9 := D8.grown G7 (by intro e; cases e; omega)
      refine ⟨_, rfl, .inr D9, ?_⟩
      simp only [List.setIfInBounds_toArray, List.set_cons_zero, List.set_cons_succ]
      have fD := fun j => D9.frozen j
      obtain ⟨t0, t1, t2, t3, t4, t5, t6, t7, t8, -⟩ := id D9
      refine Disk.z_run 8 58 (w' := w7) (v := .pointer (some ⟨w1.heap.size, 8, none⟩)) rfl rfl (by kernel_rfl) (by rfl) (by go_simp; first | done | with_reducible rfl) (.inr D9) ?_
      simp only [List.setIfInBounds_toArray, List.set_cons_zero, List.set_cons_succ]
      refine Disk.z_skip 9 (w' := w7.setCell ⟨w1.heap.size, 8, none⟩ (.slice (some ⟨g', 0, none⟩) n' c')) rfl rfl (by kernel_rfl) (by rfl) (by go_simp; first | done | with_reducible rfl) (.inl rfl) ?_
      refine Disk.z_done (by kernel_rfl) ?_ _
      have E9 := D9.set8 (.slice (some ⟨g', 0, none⟩) n' c')
      have S1f := (S1'.grown G7 (by intro e; cases e; omega)).setOther (b := w1.heap.size) (i := 8) (by omega) (.slice (some ⟨g', 0, none⟩) n' c')
      have S2f := (S2'.grown G7 (by intro e; cases e; omega)).setOther (b := w1.heap.size) (i := 8) (by omega) (.slice (some ⟨g', 0, none⟩) n' c')
      have S3f := R3'.setOther (b := w1.heap.size) (i := 8) ng1 (.slice (some ⟨g', 0, none⟩) n' c')
      have R9 := (R8.of_block (G7.block _ R8.lt (by intro e; cases e; omega))).setOther (a := ⟨w1.heap.size, 8, none⟩) (by show w.heap.size + 1 ≠ w1.heap.size; omega) (.slice (some ⟨g', 0, none⟩) n' c')
      have hbw7 : Below w.heap.size w w7 := Below.grown hbw6 G7 hbw6.size (fun q hq => by cases hq; omega)
      have hbw8 := hbw7.setCell (p := ⟨w1.heap.size, 8, none⟩) (by show w.heap.size ≤ w1.heap.size; omega) (.slice (some ⟨g', 0, none⟩) n' c')
      clear t0 t1 t2 t3 t4 t5 t6 t7 t8 D9 D8 D7 hs fD S1 S2 S3 S1' S2' S3' R7 R8 IO5 q1 q2 q3 b56 hb6 G7
      generalize w7.setCell ⟨w1.heap.size, 8, none⟩ (.slice (some ⟨g', 0, none⟩) n' c') = w8 at *
      replace hn' : Hid (n' = (lw h.kept a bb).length) := hn'
      obtain ⟨t0, t1, t2, t3, t4, t5, t6, t7, t8, -⟩ := id E9
      go_wp2_with fail
      refine (draftHeap_any _ _ _ _ _ _ _ _ _ _ _ _ _ _ _ _ _ _).mono ?_
      rintro e w9 ⟨rfl, hb9⟩
      have RA := R9.of_block (hb9.block _ R9.lt)
      have bel9 := bel_after hbw8 hb9
      have OKC : (#[.slice (some ⟨g1, 0, none⟩) 3200 3200, .slice (some ⟨g2, 0, none⟩) h.roots.length h.roots.length, .int .i64 h.old, .int .i64 h.eden, .int .i64 h.surv, .bool h.flip, .int .i64 h.hash, .slice (some ⟨g', 0, none⟩) n' c'] : Array Value).all (·.oneCell') = true := by simp [Value.oneCell']
      clear t0 t1 t2 t3 t4 t5 t6 t7 t8 E9 R9
      go_wp2_with ((with_reducible refine store_box _ ?_ (.tmp 8) (.tmp 60) 26 ?_ 26 (w.heap.size + 1) 8 #[.slice (some ⟨g1, 0, none⟩) 3200 3200, .slice (some ⟨g2, 0, none⟩) h.roots.length h.roots.length, .int .i64 h.old, .int .i64 h.eden, .int .i64 h.surv, .bool h.flip, .int .i64 h.hash, .slice (some ⟨g', 0, none⟩) n' c'] f ?_ ?_ RA ?_ ?_ OKC ?_); rfl; rfl; rfl; rfl; rfl; kernel_rfl; intro wA KA GA; have r0 : wA.cell? ⟨w.heap.size + 1, 0, none⟩ = some (.slice (some ⟨g1, 0, none⟩) 3200 3200) := KA.cell (i := 0) (by omega); have r1 : wA.cell? ⟨w.heap.size + 1, 1, none⟩ = some (.slice (some ⟨g2, 0, none⟩) h.roots.length h.roots.length) := KA.cell (i := 1) (by omega); have r2 : wA.cell? ⟨w.heap.size + 1, 2, none⟩ = some (.int .i64 h.old) := KA.cell (i := 2) (by omega); have r3 : wA.cell? ⟨w.heap.size + 1, 3, none⟩ = some (.int .i64 h.eden) := KA.cell (i := 3) (by omega); have r4 : wA.cell? ⟨w.heap.size + 1, 4, none⟩ = some (.int .i64 h.surv) := KA.cell (i := 4) (by omega); have r5 : wA.cell? ⟨w.heap.size + 1, 5, none⟩ = some (.bool h.flip) := KA.cell (i := 5) (by omega); have r6 : wA.cell? ⟨w.heap.size + 1, 6, none⟩ = some (.int .i64 h.hash) := KA.cell (i := 6) (by omega); have r7 : wA.cell? ⟨w.heap.size + 1, 7, none⟩ = some (.slice (some ⟨g', 0, none⟩) n' c') := KA.cell (i := 7) (by omega))
      have BA : Below w.heap.size w wA := Below.grown bel9 GA bel9.size (fun q hq => by cases hq; omega)
      have HF : HN w.heap.size wA (.agg #[.slice (some ⟨g1, 0, none⟩) 3200 3200, .slice (some ⟨g2, 0, none⟩) h.roots.length h.roots.length, .int .i64 h.old, .int .i64 h.eden, .int .i64 h.surv, .bool h.flip, .int .i64 h.hash, .slice (some ⟨g', 0, none⟩) n' c']) (putC h x k y) := by
        rw [put_yes AB, ea, Int.toNat_natCast, Int.toNat_natCast]
        have q := HN.of_rows (h := putH h a k y) (B := w.heap.size) ((S1f.later hb9).grown GA (by intro e; cases e; omega)) ((S2f.later hb9).grown GA (by intro e; cases e; omega)) (KR.out _ _ _ ((S3f.later hb9).grown GA (by intro e; cases e; exact ng2 rfl))) (by omega) (by omega) ng5 (by omega) ng3 ng4
        rw [show (putH h a k y).words.length = 3200 from by unfold putH; simp [hl.out], show (putH h a k y).kept.length = n' from by rw [hn'.out]; exact KE.out, hl.out] at q
        exact q
      exact bodyPost_ret (v := .tuple #[.agg #[.slice (some ⟨g1, 0, none⟩) 3200 3200, .slice (some ⟨g2, 0, none⟩) h.roots.length h.roots.length, .int .i64 h.old, .int .i64 h.eden, .int .i64 h.surv, .bool h.flip, .int .i64 h.hash, .slice (some ⟨g', 0, none⟩) n' c'], .bool true]) (by simp [results, Tryz.results7, go_sem, r0, r1, r2, r3, r4, r5, r6, r7]) rfl ⟨⟨_, by rw [AB], HF⟩, BA⟩
    · rw [ev] at EL
      have hm := mYF (.slice (some ⟨g1, 0, none⟩) 3200 3200) a
      clear ev
      go_wp2_with fail
      refine EL.mono ?_
      rintro e w3 ⟨rfl, hb3⟩
      have R4 := R3.of_block (hb3.block _ R3.lt)
      have hbw3 := bel_after hbw2 hb3
      have b13 := bel_after hb12 hb3
      go_wp2_with fail
      refine (OF _ b13).mono ?_
      rintro e w4 ⟨⟨q, c, rfl, hc, hq⟩, hb4⟩
      have R5 := R4.of_block (hb4.block _ R4.lt)
      have hbw4 := bel_after hbw3 hb4
      have b14 := bel_after b13 hb4
      have HP := fun W => hasPlace_any (some ⟨g1, q, none⟩) (gw h.words a).toNat c i W
      by_cases hi : 0 ≤ i ∧ i < gw h.words a
      case neg =>
        have AB := PN.out hi
        rw [decide_eq_false (by omega)] at HP
        clear OF EL hm hc hq PY PN
        have r0 := R5.cell (i := 0) (by omega)
        have r1 := R5.cell (i := 1) (by omega)
        have r2 := R5.cell (i := 2) (by omega)
        have r3 := R5.cell (i := 3) (by omega)
        have r4 := R5.cell (i := 4) (by omega)
        have r5 := R5.cell (i := 5) (by omega)
        have r6 := R5.cell (i := 6) (by omega)
        have r7 := R5.cell (i := 7) (by omega)
        have fR := fun i => R5.frozen i
        have ltR := R5.lt
        have B9 : Below w.heap.size w ((((((((w4.setCell ⟨w.heap.size + 1, 0, none⟩ (.slice none 0 0)).setCell ⟨w.heap.size + 1, 1, none⟩ (.slice none 0 0)).setCell ⟨w.heap.size + 1, 2, none⟩ (.int .i64 0)).setCell ⟨w.heap.size + 1, 3, none⟩ (.int .i64 0)).setCell ⟨w.heap.size + 1, 4, none⟩ (.int .i64 0)).setCell ⟨w.heap.size + 1, 5, none⟩ (.bool false)).setCell ⟨w.heap.size + 1, 6, none⟩ (.int .i64 0)).setCell ⟨w.heap.size + 1, 7, none⟩ (.slice none 0 0)) := by
          repeat (refine Below.setCell ?_ (p := ⟨w.heap.size + 1, _, none⟩) (Nat.le_succ _) _)
          exact hbw4
        go_wp2_with (go_at_call 23; refine (HP _).mono ?_; rintro e wq ⟨rfl, hq⟩; obtain rfl := hq.symm)
        exact bodyPost_ret (v := .tuple #[.agg #[.slice none 0 0, .slice none 0 0, .int .i64 0, .int .i64 0, .int .i64 0, .bool false, .int .i64 0, .slice none 0 0], .bool false]) (by simp [results, Tryz.results7, go_sem, r0, r1, r2, r3, r4, r5, r6, r7]) rfl ⟨⟨_, zero_ret AB (put_no AB)⟩, B9⟩
      have AB := PY.out hi
      obtain ⟨k, rfl⟩ : ∃ k : Nat, i = k := ⟨i.toNat, by omega⟩
      rw [decide_eq_true (by omega)] at HP
      have D4 := D3.later (bel_after hb3 hb4)
      have OF5 := OF w4 b14
      replace hi : Hid (0 ≤ (k : Int) ∧ (k : Int) < gw h.words a) := hi
      clear EL PN PY OF
      go_wp2_with (go_at_call 23; refine (HP _).mono ?_; rintro e wq ⟨rfl, hq⟩; obtain rfl := hq.symm)
      refine OF5.mono ?_
      rintro e w5 ⟨⟨q5, c5, rfl, hc5, hq5⟩, hb5⟩
      obtain rfl : q5 = 0 + (a + 4) := hq5.resolve_left (by have := hi.out; omega)
      rw [Nat.zero_add]
      have b15 := bel_after b14 hb5
      have hbw5 := bel_after hbw4 hb5
      have R6 := R5.of_block (hb5.block _ R5.lt)
      have D5 := D4.later hb5
      have P1 := q1.later b15
      have P2 := q2.later b15
      have P3 := q3.later b15
      have hk3 := PL.out k hi.out
      have pc := P1.cell (i := a + 4 + k) (by rw [hl.out]; omega)
      have pf := fun j => P1.frozen j
      have RO := fun W => implRefOf_any x W
      rw [show valK 2 x = a from by unfold valK; rw [if_pos k2, ea], show isK 2 x = true from decide_eq_true k2] at RO
      have kn : k < (gw h.words a).toNat := by have := hi.out; omega
      have kni : (k : Int) < (gw h.words a).toNat := by omega
      have S1 := P1.set (a + 4 + k) y
      have S2 := P2.setOther (b := g1) (i := a + 4 + k) (by omega) (.int .i64 y)
      have S3 := P3.setOther (b := g1) (i := a + 4 + k) (by omega) (.int .i64 y)
      have R7 := R6.setOther (a := ⟨g1, a + 4 + k, none⟩) (by show w.heap.size + 1 ≠ g1; omega) (.int .i64 y)
      have D7 := D5.set (b := g1) (i := a + 4 + k) (by omega) (.int .i64 y)
      have IO5 := IR.setOther (b := g1) (i := a + 4 + k) (io.later b15) OF1 (.int .i64 y)
      have hb7 := hbw5.setCell (p := ⟨g1, a + 4 + k, none⟩) (by show w.heap.size ≤ g1; omega) (.int .i64 y)
      generalize h.words.getD (a + 4 + k) 0 = y0 at *
      generalize (gw h.words a).toNat = nn at *
      clear P1 P2 P3 R3 R4 R5 R6 D3 D4 D5 hq hq5 hc
      go_wp2_with (first | (go_at_call 23; refine (HP _).mono ?_; rintro e wq ⟨rfl, hq⟩; obtain rfl := hq.symm) | (go_at_call 24; refine (RO _).mono ?_; rintro e wq ⟨rfl, hq⟩; obtain rfl := hq.symm))
      have lt5 : w1.heap.size < w5.heap.size := by have := D7.lt; simpa using this
      have lg1 := S1.lt
      have lg2 := S2.lt
      have lg3 := S3.lt
      refine Disk.z_plain 9 (fun W' => DX W' w1.heap.size (.slice (some ⟨g1, 0, none⟩) 3200 3200) (.slice oa (obC h).length oc) (.slice (some ⟨g2, 0, none⟩) h.roots.length h.roots.length) (.int .i64 h.old) (.int .i64 h.eden) (.int .i64 h.surv) (.bool h.flip) (.int .i64 h.hash) (.slice (some ⟨g3, 0, none⟩) h.kept.length h.kept.length)) (by kernel_rfl) (D7.later (Below.refl _ _).drew) fun hs => ?_
      refine Disk.z_take 0 50 (v := .pointer (some ⟨w1.heap.size, 8, none⟩)) rfl rfl (by kernel_rfl) (by kernel_rfl) (by kernel_rfl) (by kernel_rfl) (by rfl) hs (fun W' hSw => (by
        obtain ⟨s0, s1, s2, s3, s4, s5, s6, s7, s8, -⟩ := hSw
        go_simp; first | done | with_reducible rfl)) ?_
      simp only [List.setIfInBounds_toArray, List.set_cons_zero, List.set_cons_succ]
      refine Disk.z_take 1 51 (v := .slice (some ⟨g3, 0, none⟩) h.kept.length h.kept.length) rfl rfl (by kernel_rfl) (by kernel_rfl) (by kernel_rfl) (by kernel_rfl) (by rfl) hs (fun W' hSw => (by
        obtain ⟨s0, s1, s2, s3, s4, s5, s6, s7, s8, -⟩ := hSw
        go_simp; first | done | with_reducible rfl)) ?_
      simp only [List.setIfInBounds_toArray, List.set_cons_zero, List.set_cons_succ]
      refine Disk.z_take 2 52 (v := .int .i64 a) rfl rfl (by kernel_rfl) (by kernel_rfl) (by kernel_rfl) (by kernel_rfl) (by rfl) hs (fun W' hSw => (by
        obtain ⟨s0, s1, s2, s3, s4, s5, s6, s7, s8, -⟩ := hSw
        go_simp; first | done | with_reducible rfl)) ?_
      simp only [List.setIfInBounds_toArray, List.set_cons_zero, List.set_cons_succ]
      refine Disk.z_take 3 53 (v := .pointer (some ⟨w1.heap.size, 0, none⟩)) rfl rfl (by kernel_rfl) (by kernel_rfl) (by kernel_rfl) (by kernel_rfl) (by rfl) hs (fun W' hSw => (by
        obtain ⟨s0, s1, s2, s3, s4, s5, s6, s7, s8, -⟩ := hSw
        go_simp; first | done | with_reducible rfl)) ?_
      simp only [List.setIfInBounds_toArray, List.set_cons_zero, List.set_cons_succ]
      refine Disk.z_take 4 54 (v := .agg #[.slice (some ⟨g1, 0, none⟩) 3200 3200, .slice oa (obC h).length oc]) rfl rfl (by kernel_rfl) (by kernel_rfl) (by kernel_rfl) (by kernel_rfl) (by rfl) hs (fun W' hSw => (by
        obtain ⟨s0, s1, s2, s3, s4, s5, s6, s7, s8, -⟩ := hSw
        go_simp; first | done | with_reducible rfl)) ?_
      simp only [List.setIfInBounds_toArray, List.set_cons_zero, List.set_cons_succ]
      refine Disk.z_take 5 55 (v := .iface 71 (.agg #[.slice (some ⟨g1, 0, none⟩) 3200 3200, .int .i64 a])) rfl rfl (by kernel_rfl) (by kernel_rfl) (by kernel_rfl) (by kernel_rfl) (by rfl) hs (fun W' hSw => (by
        obtain ⟨s0, s1, s2, s3, s4, s5, s6, s7, s8, -⟩ := hSw
        go_simp; first | done | with_reducible rfl)) ?_
      simp only [List.setIfInBounds_toArray, List.set_cons_zero, List.set_cons_succ]
      refine Disk.z_call 6 56 rfl rfl (by kernel_rfl) (by rfl) (f := 26) (args := #[.agg #[.slice (some ⟨g1, 0, none⟩) 3200 3200, .slice oa (obC h).length oc], .iface 71 (.agg #[.slice (some ⟨g1, 0, none⟩) 3200 3200, .int .i64 a])]) (w0 := (w5.setCell ⟨g1, a + 4 + k, none⟩ (.int .i64 y)).drew) (by go_simp) ?_
      obtain ⟨bb, hbb⟩ : ∃ bb, bb = false := ⟨_, rfl⟩
      obtain ⟨KE, KR⟩ := KK.out k hi.out bb (by rw [hbb, decide_eq_false (by omega : ¬ a < 2000)]; rfl)
      have MK := fun W => mustYoung_any (.slice (some ⟨g1, 0, none⟩) 3200 3200) (some ⟨g1, 0, none⟩) oa 3200 3200 (obC h).length oc a W
      rw [← hbb] at MK
      refine (MK _).mono ?_
      rintro e w6 ⟨rfl, hb6⟩
      have b56 : Below (w5.setCell ⟨g1, a + 4 + k, none⟩ (.int .i64 y)).heap.size (w5.setCell ⟨g1, a + 4 + k, none⟩ (.int .i64 y)) w6 := bel_after (Below.refl _ _).drew hb6
      have D8 := D7.later b56
      refine ⟨_, rfl, .inr D8, ?_⟩
      simp only [List.setIfInBounds_toArray, List.set_cons_zero, List.set_cons_succ]
      have S1' := S1.later b56
      have S2' := S2.later b56
      have S3' := S3.later b56
      have R8 := R7.of_block (b56.block _ R7.lt)
      have hbw6 := hb7.trans (b56.mono hb7.size)
      refine Disk.z_call 7 57 rfl rfl (by kernel_rfl) (by rfl) (f := 25) (args := #[.slice (some ⟨g3, 0, none⟩) h.kept.length h.kept.length, .int .i64 a, .bool bb]) (w0 := w6) (by go_simp) ?_
      refine (listWith_any g3 h.kept a bb w6 S3' KS KL).mono ?_
      rintro e w7 ⟨⟨g', n', c', rfl, hn', R3', wh⟩, G7⟩
      have szs : (w5.setCell ⟨g1, a + 4 + k, none⟩ (.int .i64 y)).heap.size = w5.heap.size := by simp
      have le6 : w5.heap.size ≤ w6.heap.size := by have := b56.size; omega
      rw [szs] at lg1 lg2 lg3
      have ng : g' ≠ w1.heap.size ∧ g' ≠ w.heap.size + 1 ∧ g1 ≠ g' ∧ g2 ≠ g' ∧ w.heap.size ≤ g' := by
        rcases wh with e | e <;> omega
      obtain ⟨ng1, ng2, ng3, ng4, ng5⟩ := ng
      have D9 := D8.grown G7 (by intro e; cases e; omega)
      refine ⟨_, rfl, .inr D9, ?_⟩
      simp only [List.setIfInBounds_toArray, List.set_cons_zero, List.set_cons_succ]
      have fD := fun j => D9.frozen j
      obtain ⟨t0, t1, t2, t3, t4, t5, t6, t7, t8, -⟩ := id D9
      refine Disk.z_run 8 58 (w' := w7) (v := .pointer (some ⟨w1.heap.size, 8, none⟩)) rfl rfl (by kernel_rfl) (by rfl) (by go_simp; first | done | with_reducible rfl) (.inr D9) ?_
      simp only [List.setIfInBounds_toArray, List.set_cons_zero, List.set_cons_succ]
      refine Disk.z_skip 9 (w' := w7.setCell ⟨w1.heap.size, 8, none⟩ (.slice (some ⟨g', 0, none⟩) n' c')) rfl rfl (by kernel_rfl) (by rfl) (by go_simp; first | done | with_reducible rfl) (.inl rfl) ?_
      refine Disk.z_done (by kernel_rfl) ?_ _
      have E9 := D9.set8 (.slice (some ⟨g', 0, none⟩) n' c')
      have S1f := (S1'.grown G7 (by intro e; cases e; omega)).setOther (b := w1.heap.size) (i := 8) (by omega) (.slice (some ⟨g', 0, none⟩) n' c')
      have S2f := (S2'.grown G7 (by intro e; cases e; omega)).setOther (b := w1.heap.size) (i := 8) (by omega) (.slice (some ⟨g', 0, none⟩) n' c')
      have S3f := R3'.setOther (b := w1.heap.size) (i := 8) ng1 (.slice (some ⟨g', 0, none⟩) n' c')
      have R9 := (R8.of_block (G7.block _ R8.lt (by intro e; cases e; omega))).setOther (a := ⟨w1.heap.size, 8, none⟩) (by show w.heap.size + 1 ≠ w1.heap.size; omega) (.slice (some ⟨g', 0, none⟩) n' c')
      have hbw7 : Below w.heap.size w w7 := Below.grown hbw6 G7 hbw6.size (fun q hq => by cases hq; omega)
      have hbw8 := hbw7.setCell (p := ⟨w1.heap.size, 8, none⟩) (by show w.heap.size ≤ w1.heap.size; omega) (.slice (some ⟨g', 0, none⟩) n' c')
      clear t0 t1 t2 t3 t4 t5 t6 t7 t8 D9 D8 D7 hs fD S1 S2 S3 S1' S2' S3' R7 R8 IO5 q1 q2 q3 b56 hb6 G7
      generalize w7.setCell ⟨w1.heap.size, 8, none⟩ (.slice (some ⟨g', 0, none⟩) n' c') = w8 at *
      replace hn' : Hid (n' = (lw h.kept a bb).length) := hn'
      obtain ⟨t0, t1, t2, t3, t4, t5, t6, t7, t8, -⟩ := id E9
      go_wp2_with fail
      refine (draftHeap_any _ _ _ _ _ _ _ _ _ _ _ _ _ _ _ _ _ _).mono ?_
      rintro e w9 ⟨rfl, hb9⟩
      have RA := R9.of_block (hb9.block _ R9.lt)
      have bel9 := bel_after hbw8 hb9
      have OKC : (#[.slice (some ⟨g1, 0, none⟩) 3200 3200, .slice (some ⟨g2, 0, none⟩) h.roots.length h.roots.length, .int .i64 h.old, .int .i64 h.eden, .int .i64 h.surv, .bool h.flip, .int .i64 h.hash, .slice (some ⟨g', 0, none⟩) n' c'] : Array Value).all (·.oneCell') = true := by simp [Value.oneCell']
      clear t0 t1 t2 t3 t4 t5 t6 t7 t8 E9 R9
      go_wp2_with ((with_reducible refine store_box _ ?_ (.tmp 8) (.tmp 60) 26 ?_ 26 (w.heap.size + 1) 8 #[.slice (some ⟨g1, 0, none⟩) 3200 3200, .slice (some ⟨g2, 0, none⟩) h.roots.length h.roots.length, .int .i64 h.old, .int .i64 h.eden, .int .i64 h.surv, .bool h.flip, .int .i64 h.hash, .slice (some ⟨g', 0, none⟩) n' c'] f ?_ ?_ RA ?_ ?_ OKC ?_); rfl; rfl; rfl; rfl; rfl; kernel_rfl; intro wA KA GA; have r0 : wA.cell? ⟨w.heap.size + 1, 0, none⟩ = some (.slice (some ⟨g1, 0, none⟩) 3200 3200) := KA.cell (i := 0) (by omega); have r1 : wA.cell? ⟨w.heap.size + 1, 1, none⟩ = some (.slice (some ⟨g2, 0, none⟩) h.roots.length h.roots.length) := KA.cell (i := 1) (by omega); have r2 : wA.cell? ⟨w.heap.size + 1, 2, none⟩ = some (.int .i64 h.old) := KA.cell (i := 2) (by omega); have r3 : wA.cell? ⟨w.heap.size + 1, 3, none⟩ = some (.int .i64 h.eden) := KA.cell (i := 3) (by omega); have r4 : wA.cell? ⟨w.heap.size + 1, 4, none⟩ = some (.int .i64 h.surv) := KA.cell (i := 4) (by omega); have r5 : wA.cell? ⟨w.heap.size + 1, 5, none⟩ = some (.bool h.flip) := KA.cell (i := 5) (by omega); have r6 : wA.cell? ⟨w.heap.size + 1, 6, none⟩ = some (.int .i64 h.hash) := KA.cell (i := 6) (by omega); have r7 : wA.cell? ⟨w.heap.size + 1, 7, none⟩ = some (.slice (some ⟨g', 0, none⟩) n' c') := KA.cell (i := 7) (by omega))
      have BA : Below w.heap.size w wA := Below.grown bel9 GA bel9.size (fun q hq => by cases hq; omega)
      have HF : HN w.heap.size wA (.agg #[.slice (some ⟨g1, 0, none⟩) 3200 3200, .slice (some ⟨g2, 0, none⟩) h.roots.length h.roots.length, .int .i64 h.old, .int .i64 h.eden, .int .i64 h.surv, .bool h.flip, .int .i64 h.hash, .slice (some ⟨g', 0, none⟩) n' c']) (putC h x k y) := by
        rw [put_yes AB, ea, Int.toNat_natCast, Int.toNat_natCast]
        have q := HN.of_rows (h := putH h a k y) (B := w.heap.size) ((S1f.later hb9).grown GA (by intro e; cases e; omega)) ((S2f.later hb9).grown GA (by intro e; cases e; omega)) (KR.out _ _ _ ((S3f.later hb9).grown GA (by intro e; cases e; exact ng2 rfl))) (by omega) (by omega) ng5 (by omega) ng3 ng4
        rw [show (putH h a k y).words.length = 3200 from by unfold putH; simp [hl.out], show (putH h a k y).kept.length = n' from by rw [hn'.out]; exact KE.out, hl.out] at q
        exact q
      exact bodyPost_ret (v := .tuple #[.agg #[.slice (some ⟨g1, 0, none⟩) 3200 3200, .slice (some ⟨g2, 0, none⟩) h.roots.length h.roots.length, .int .i64 h.old, .int .i64 h.eden, .int .i64 h.surv, .bool h.flip, .int .i64 h.hash, .slice (some ⟨g', 0, none⟩) n' c'], .bool true]) (by simp [results, Tryz.results7, go_sem, r0, r1, r2, r3, r4, r5, r6, r7]) rfl ⟨⟨_, by rw [AB], HF⟩, BA⟩

end Go.Proofs.YtfbnjdlnmnhjoaaGreat
