/- Set of the model. -/
import Derived.Test.YtklafifiphbibaaGreatZFSpec
import Derived.Test.YtklafifiphbibaaGreatZHSpecL2
import Derived.Test.YtklafifiphbibaaGreatZMBox
import Derived.Test.YtklafifiphbibaaGreatZDZed
import Derived.Test.YtklafifiphbibaaGreatZU2
namespace Go.Proofs.YtklafifiphbibaaGreat
open Go.RowKit

/-- The box of a heap. -/
structure HX (W : World) (N : Nat) (u0 u1 u2 u3 u4 u5 u6 u7 : Value) : Prop where
  c0 : W.cell? ⟨N, 0, none⟩ = some u0
  c1 : W.cell? ⟨N, 1, none⟩ = some u1
  c2 : W.cell? ⟨N, 2, none⟩ = some u2
  c3 : W.cell? ⟨N, 3, none⟩ = some u3
  c4 : W.cell? ⟨N, 4, none⟩ = some u4
  c5 : W.cell? ⟨N, 5, none⟩ = some u5
  c6 : W.cell? ⟨N, 6, none⟩ = some u6
  c7 : W.cell? ⟨N, 7, none⟩ = some u7
  row : ∃ f, W.rowIs N 26 8 f
theorem HX.lt {W : World} {N : Nat} {u0 u1 u2 u3 u4 u5 u6 u7 : Value} (h : HX W N u0 u1 u2 u3 u4 u5 u6 u7) : N < W.heap.size := by
  obtain ⟨f, F⟩ := h.row
  exact F.lt
theorem HX.frozen {W : World} {N : Nat} {u0 u1 u2 u3 u4 u5 u6 u7 : Value} (h : HX W N u0 u1 u2 u3 u4 u5 u6 u7) (j : Nat) : W.frozen? ⟨N, j, none⟩ = false := by
  obtain ⟨f, F⟩ := h.row
  exact F.frozen j
theorem HX.block {W W' : World} {N : Nat} {u0 u1 u2 u3 u4 u5 u6 u7 : Value} (h : HX W N u0 u1 u2 u3 u4 u5 u6 u7) (hb : W'.heap[N]? = W.heap[N]?) : HX W' N u0 u1 u2 u3 u4 u5 u6 u7 := by
  obtain ⟨f, F⟩ := h.row
  have e : ∀ o u, W.cell? ⟨N, o, none⟩ = some u → W'.cell? ⟨N, o, none⟩ = some u := fun o u q => (World.cell?_of_block (w := W) (a := ⟨N, o, none⟩) hb).trans q
  exact ⟨e _ _ h.c0, e _ _ h.c1, e _ _ h.c2, e _ _ h.c3, e _ _ h.c4, e _ _ h.c5, e _ _ h.c6, e _ _ h.c7, ⟨f, F.of_block hb⟩⟩
theorem HX.later {W W' : World} {N : Nat} {u0 u1 u2 u3 u4 u5 u6 u7 : Value} (h : HX W N u0 u1 u2 u3 u4 u5 u6 u7) (hb : Below W.heap.size W W') : HX W' N u0 u1 u2 u3 u4 u5 u6 u7 := h.block (hb.block _ h.lt)
theorem HX.grown {W W' : World} {N : Nat} {r : Option Nat} {u0 u1 u2 u3 u4 u5 u6 u7 : Value} (h : HX W N u0 u1 u2 u3 u4 u5 u6 u7) (hg : W.grownBy W' r) (hr : some N ≠ r) : HX W' N u0 u1 u2 u3 u4 u5 u6 u7 := h.block (hg.block _ h.lt hr)
theorem HX.set {W : World} {N b i : Nat} {u0 u1 u2 u3 u4 u5 u6 u7 : Value} (h : HX W N u0 u1 u2 u3 u4 u5 u6 u7) (hb : N ≠ b) (v : Value) : HX (W.setCell ⟨b, i, none⟩ v) N u0 u1 u2 u3 u4 u5 u6 u7 := h.block (Below.heap_setCell _ _ _ _ hb)
theorem HX.set7 {W : World} {N : Nat} {u0 u1 u2 u3 u4 u5 u6 u7 : Value} (h : HX W N u0 u1 u2 u3 u4 u5 u6 u7) (v : Value) : HX (W.setCell ⟨N, 7, none⟩ v) N u0 u1 u2 u3 u4 u5 u6 v := by
  obtain ⟨f, F⟩ := h.row
  have F' := F.set 7 v
  have e : ∀ o u, o ≠ 7 → W.cell? ⟨N, o, none⟩ = some u → (W.setCell ⟨N, 7, none⟩ v).cell? ⟨N, o, none⟩ = some u := fun o u ho q => by
    rw [World.cell?_setCell_other]
    · exact q
    · intro k
      simp at k <;> omega
  exact ⟨e _ _ (by omega) h.c0, e _ _ (by omega) h.c1, e _ _ (by omega) h.c2, e _ _ (by omega) h.c3, e _ _ (by omega) h.c4, e _ _ (by omega) h.c5, e _ _ (by omega) h.c6, by rw [F'.cell (by omega), if_pos rfl], ⟨_, F'⟩⟩
theorem HX.new (w : World) (u0 u1 u2 u3 u4 u5 u6 u7 : Value) : HX (w.alloc (.cells #[u0, u1, u2, u3, u4, u5, u6, u7] 26)) w.heap.size u0 u1 u2 u3 u4 u5 u6 u7 :=
  ⟨cell_new w _ _ _ rfl 0 _ rfl, cell_new w _ _ _ rfl 1 _ rfl, cell_new w _ _ _ rfl 2 _ rfl, cell_new w _ _ _ rfl 3 _ rfl, cell_new w _ _ _ rfl 4 _ rfl, cell_new w _ _ _ rfl 5 _ rfl, cell_new w _ _ _ rfl 6 _ rfl, cell_new w _ _ _ rfl 7 _ rfl, ⟨_, row_any w _ 26⟩⟩
theorem own_os {w : World} {B n : Nat} {v : Value} {xs : List Value} (h : w.ownsRow B 2 1 v n xs) : Disk.OS w 2 1 v n ∧ ∀ b, Disk.rowOf v n = some b → B ≤ b := by
  rcases h.2 with ⟨rfl, rfl⟩ | ⟨g, cap, cur, rfl, hB, hh, h1, h2, h3, h4⟩
  · exact ⟨⟨_, _, rfl, .inl rfl⟩, fun b q => (zero_row q).elim⟩
  · exact ⟨⟨_, _, rfl, .inr ⟨g, cur.size, fun i => cur[i]?.getD undef, rfl, by omega, ⟨cur, hh, rfl, fun i hi => by simp [hi]⟩⟩⟩, fun b q => by have := rowof q; omega⟩
theorem HN.of_own3 {B B3 g1 g2 c1 c2 : Nat} {w : World} {v3 : Value} {h : Hp} (r1 : RI w g1 h.words c1) (r2 : RI w g2 h.roots c2) (o3 : w.ownsRow B3 2 1 v3 h.kept.length (icells h.kept))
    (b1 : B ≤ g1) (b2 : B ≤ g2) (_b3 : B ≤ B3) (d12 : g1 ≠ g2) (d13 : g1 < B3) (d23 : g2 < B3) :
    HN B w (.agg #[.slice (some ⟨g1, 0, none⟩) h.words.length c1, .slice (some ⟨g2, 0, none⟩) h.roots.length c2, .int .i64 h.old, .int .i64 h.eden, .int .i64 h.surv, .bool h.flip, .int .i64 h.hash, v3]) h := by
  obtain ⟨s3, k3⟩ := own_os o3
  exact ⟨_, _, _, rfl, ⟨r1.os, r2.os, s3⟩, ⟨r1.ir r1.le, r2.ir r2.le, IR_of_owns o3⟩, ⟨fun b k => by have := rowof k; omega, fun b k => by have := rowof k; omega, fun b k => by have := k3 b k; omega⟩,
    fun b k k' => by have := rowof k; have := rowof k'; omega, fun b k k' => by have := rowof k; have := k3 b k'; omega, fun b k k' => by have := rowof k; have := k3 b k'; omega⟩
theorem own_block {w w' : World} {B n : Nat} {v : Value} {xs : List Value} (h : w.ownsRow B 2 1 v n xs) (hb : ∀ b, B ≤ b → w'.heap[b]? = w.heap[b]?) : w'.ownsRow B 2 1 v n xs := by
  obtain ⟨hl, h⟩ := h
  refine ⟨hl, ?_⟩
  rcases h with e | ⟨g, cap, cur, e, hB, hh, r⟩
  · exact .inl e
  · exact .inr ⟨g, cap, cur, e, hB, (hb g hB).trans hh, r⟩

set_option maxRecDepth 100000 in
set_option maxHeartbeats 6400000 in
theorem specSet_m (v : Value) (h : Hp) (x i y : Int) (w : World) (hv : HR w v h) (hwo : h.words.length ≤ 1000000000000) (hro : h.roots.length ≤ 1000000000000) (hke : h.kept.length ≤ 1000000000000) (hx : In64 x) (hy : In64 y) :
    Calls Tryz.prog 8 #[v, .int .i64 x, .int .i64 i, .int .i64 y] w fun e w' => (∃ u, e = .returned (.tuple #[u, .bool (putB h x i y)]) ∧ HM w.heap.size w' u (putC h x i y)) ∧ Below w.heap.size w w' := by
  obtain ⟨v1, v2, v3, rfl, i1, i2, i3⟩ := id hv
  obtain ⟨a1, c1, rfl, -⟩ := IRs i1
  obtain ⟨a2, c2, rfl, -⟩ := IRs i2
  obtain ⟨a3, c3, rfl, -⟩ := IRs i3
  have S0 := CS.new w (.slice a1 h.words.length c1) (.slice a2 h.roots.length c2) (.int .i64 h.old) (.int .i64 h.eden) (.int .i64 h.surv) (.bool h.flip) (.int .i64 h.hash) (.slice a3 h.kept.length c3)
  have C := specHeapOk_c _ h _ (hv.later S0.bel) hro hke
  go_enter Tryz.func8, Tryz.ntmps8
  go_wp2_with fail
  refine C.mono ?_
  rintro e w1 ⟨rfl, hb1⟩
  have S1 := S0.later hb1
  clear C S0 hb1
  cases hk : okC h
  · have AB : putB h x i y = false := by unfold putB; rw [hk]; rfl
    clear i1 i2 i3
    obtain ⟨fk, K⟩ := S1.res
    have fR := fun i => K.frozen i
    have r0 := K.cell (i := 0) (by omega)
    have r1 := K.cell (i := 1) (by omega)
    have r2 := K.cell (i := 2) (by omega)
    have r3 := K.cell (i := 3) (by omega)
    have r4 := K.cell (i := 4) (by omega)
    have r5 := K.cell (i := 5) (by omega)
    have r6 := K.cell (i := 6) (by omega)
    have r7 := K.cell (i := 7) (by omega)
    have ltR := K.lt
    have B9 : Below w.heap.size w ((((((((w1.setCell ⟨w.heap.size + 1, 0, none⟩ (.slice none 0 0)).setCell ⟨w.heap.size + 1, 1, none⟩ (.slice none 0 0)).setCell ⟨w.heap.size + 1, 2, none⟩ (.int .i64 0)).setCell ⟨w.heap.size + 1, 3, none⟩ (.int .i64 0)).setCell ⟨w.heap.size + 1, 4, none⟩ (.int .i64 0)).setCell ⟨w.heap.size + 1, 5, none⟩ (.bool false)).setCell ⟨w.heap.size + 1, 6, none⟩ (.int .i64 0)).setCell ⟨w.heap.size + 1, 7, none⟩ (.slice none 0 0)) := by
      repeat (refine Below.setCell ?_ (p := ⟨w.heap.size + 1, _, none⟩) (Nat.le_succ _) _)
      exact S1.bel
    obtain ⟨o0, o1, o2, o3, o4, o5, o6, o7⟩ :  w1.cell? ⟨w.heap.size, 0, none⟩ = some (.slice a1 h.words.length c1) ∧ w1.cell? ⟨w.heap.size, 1, none⟩ = some (.slice a2 h.roots.length c2) ∧ w1.cell? ⟨w.heap.size, 2, none⟩ = some (.int .i64 h.old) ∧ w1.cell? ⟨w.heap.size, 3, none⟩ = some (.int .i64 h.eden) ∧ w1.cell? ⟨w.heap.size, 4, none⟩ = some (.int .i64 h.surv) ∧ w1.cell? ⟨w.heap.size, 5, none⟩ = some (.bool h.flip) ∧ w1.cell? ⟨w.heap.size, 6, none⟩ = some (.int .i64 h.hash) ∧ w1.cell? ⟨w.heap.size, 7, none⟩ = some (.slice a3 h.kept.length c3)  := ⟨S1.c0, S1.c1, S1.c2, S1.c3, S1.c4, S1.c5, S1.c6, S1.c7⟩
    clear K S1
    go_wp2
    exact bodyPost_ret (v := .tuple #[.agg #[.slice none 0 0, .slice none 0 0, .int .i64 0, .int .i64 0, .int .i64 0, .bool false, .int .i64 0, .slice none 0 0], .bool false]) (by simp [results, Tryz.results8, go_sem, r0, r1, r2, r3, r4, r5, r6, r7]) rfl ⟨⟨_, zero_retm AB (put_no AB)⟩, B9⟩
  have LW := l7Word_c _ h y _ (hv.later S1.bel) hk hy
  obtain ⟨o0, o1, o2, o3, o4, o5, o6, o7⟩ :  w1.cell? ⟨w.heap.size, 0, none⟩ = some (.slice a1 h.words.length c1) ∧ w1.cell? ⟨w.heap.size, 1, none⟩ = some (.slice a2 h.roots.length c2) ∧ w1.cell? ⟨w.heap.size, 2, none⟩ = some (.int .i64 h.old) ∧ w1.cell? ⟨w.heap.size, 3, none⟩ = some (.int .i64 h.eden) ∧ w1.cell? ⟨w.heap.size, 4, none⟩ = some (.int .i64 h.surv) ∧ w1.cell? ⟨w.heap.size, 5, none⟩ = some (.bool h.flip) ∧ w1.cell? ⟨w.heap.size, 6, none⟩ = some (.int .i64 h.hash) ∧ w1.cell? ⟨w.heap.size, 7, none⟩ = some (.slice a3 h.kept.length c3)  := ⟨S1.c0, S1.c1, S1.c2, S1.c3, S1.c4, S1.c5, S1.c6, S1.c7⟩
  go_wp2_with fail
  refine LW.mono ?_
  rintro e w2 ⟨rfl, hb2⟩
  have S2 := S1.later hb2
  clear S1 LW hb2 o0 o1 o2 o3 o4 o5 o6 o7
  cases hft : fitB (obC h) y
  · have AB : putB h x i y = false := by unfold putB; rw [hk, hft]; rfl
    clear i1 i2 i3
    obtain ⟨fk, K⟩ := S2.res
    have fR := fun i => K.frozen i
    have r0 := K.cell (i := 0) (by omega)
    have r1 := K.cell (i := 1) (by omega)
    have r2 := K.cell (i := 2) (by omega)
    have r3 := K.cell (i := 3) (by omega)
    have r4 := K.cell (i := 4) (by omega)
    have r5 := K.cell (i := 5) (by omega)
    have r6 := K.cell (i := 6) (by omega)
    have r7 := K.cell (i := 7) (by omega)
    have ltR := K.lt
    have B9 : Below w.heap.size w ((((((((w2.setCell ⟨w.heap.size + 1, 0, none⟩ (.slice none 0 0)).setCell ⟨w.heap.size + 1, 1, none⟩ (.slice none 0 0)).setCell ⟨w.heap.size + 1, 2, none⟩ (.int .i64 0)).setCell ⟨w.heap.size + 1, 3, none⟩ (.int .i64 0)).setCell ⟨w.heap.size + 1, 4, none⟩ (.int .i64 0)).setCell ⟨w.heap.size + 1, 5, none⟩ (.bool false)).setCell ⟨w.heap.size + 1, 6, none⟩ (.int .i64 0)).setCell ⟨w.heap.size + 1, 7, none⟩ (.slice none 0 0)) := by
      repeat (refine Below.setCell ?_ (p := ⟨w.heap.size + 1, _, none⟩) (Nat.le_succ _) _)
      exact S2.bel
    obtain ⟨o0, o1, o2, o3, o4, o5, o6, o7⟩ :  w2.cell? ⟨w.heap.size, 0, none⟩ = some (.slice a1 h.words.length c1) ∧ w2.cell? ⟨w.heap.size, 1, none⟩ = some (.slice a2 h.roots.length c2) ∧ w2.cell? ⟨w.heap.size, 2, none⟩ = some (.int .i64 h.old) ∧ w2.cell? ⟨w.heap.size, 3, none⟩ = some (.int .i64 h.eden) ∧ w2.cell? ⟨w.heap.size, 4, none⟩ = some (.int .i64 h.surv) ∧ w2.cell? ⟨w.heap.size, 5, none⟩ = some (.bool h.flip) ∧ w2.cell? ⟨w.heap.size, 6, none⟩ = some (.int .i64 h.hash) ∧ w2.cell? ⟨w.heap.size, 7, none⟩ = some (.slice a3 h.kept.length c3)  := ⟨S2.c0, S2.c1, S2.c2, S2.c3, S2.c4, S2.c5, S2.c6, S2.c7⟩
    clear K S2
    go_wp2
    exact bodyPost_ret (v := .tuple #[.agg #[.slice none 0 0, .slice none 0 0, .int .i64 0, .int .i64 0, .int .i64 0, .bool false, .int .i64 0, .slice none 0 0], .bool false]) (by simp [results, Tryz.results8, go_sem, r0, r1, r2, r3, r4, r5, r6, r7]) rfl ⟨⟨_, zero_retm AB (put_no AB)⟩, B9⟩
  have L8 := l8At_c _ h x _ (hv.later S2.bel) hk hx
  have AT : Hid (atC h x = if refB h x = true then x / 2 else -1) := (rfl : _ = _)
  generalize atC h x = at8 at *
  obtain ⟨o0, o1, o2, o3, o4, o5, o6, o7⟩ :  w2.cell? ⟨w.heap.size, 0, none⟩ = some (.slice a1 h.words.length c1) ∧ w2.cell? ⟨w.heap.size, 1, none⟩ = some (.slice a2 h.roots.length c2) ∧ w2.cell? ⟨w.heap.size, 2, none⟩ = some (.int .i64 h.old) ∧ w2.cell? ⟨w.heap.size, 3, none⟩ = some (.int .i64 h.eden) ∧ w2.cell? ⟨w.heap.size, 4, none⟩ = some (.int .i64 h.surv) ∧ w2.cell? ⟨w.heap.size, 5, none⟩ = some (.bool h.flip) ∧ w2.cell? ⟨w.heap.size, 6, none⟩ = some (.int .i64 h.hash) ∧ w2.cell? ⟨w.heap.size, 7, none⟩ = some (.slice a3 h.kept.length c3)  := ⟨S2.c0, S2.c1, S2.c2, S2.c3, S2.c4, S2.c5, S2.c6, S2.c7⟩
  go_wp2_with fail
  refine L8.mono ?_
  rintro e w3 ⟨rfl, hb3⟩
  have S3 := S2.later hb3
  clear S2 L8 hb3 o0 o1 o2 o3 o4 o5 o6 o7
  have RG := c_right hk
  have hl : Hid (h.words.length = 3200) := RG.1.1
  cases hr : refB h x
  · have AB : putB h x i y = false := by unfold putB; rw [hk, hft, hr]; rfl
    rw [hr] at AT
    obtain rfl : at8 = -1 := AT.out
    clear i1 i2 i3
    obtain ⟨fk, K⟩ := S3.res
    have fR := fun i => K.frozen i
    have r0 := K.cell (i := 0) (by omega)
    have r1 := K.cell (i := 1) (by omega)
    have r2 := K.cell (i := 2) (by omega)
    have r3 := K.cell (i := 3) (by omega)
    have r4 := K.cell (i := 4) (by omega)
    have r5 := K.cell (i := 5) (by omega)
    have r6 := K.cell (i := 6) (by omega)
    have r7 := K.cell (i := 7) (by omega)
    have ltR := K.lt
    have B9 : Below w.heap.size w ((((((((w3.setCell ⟨w.heap.size + 1, 0, none⟩ (.slice none 0 0)).setCell ⟨w.heap.size + 1, 1, none⟩ (.slice none 0 0)).setCell ⟨w.heap.size + 1, 2, none⟩ (.int .i64 0)).setCell ⟨w.heap.size + 1, 3, none⟩ (.int .i64 0)).setCell ⟨w.heap.size + 1, 4, none⟩ (.int .i64 0)).setCell ⟨w.heap.size + 1, 5, none⟩ (.bool false)).setCell ⟨w.heap.size + 1, 6, none⟩ (.int .i64 0)).setCell ⟨w.heap.size + 1, 7, none⟩ (.slice none 0 0)) := by
      repeat (refine Below.setCell ?_ (p := ⟨w.heap.size + 1, _, none⟩) (Nat.le_succ _) _)
      exact S3.bel
    obtain ⟨o0, o1, o2, o3, o4, o5, o6, o7⟩ :  w3.cell? ⟨w.heap.size, 0, none⟩ = some (.slice a1 h.words.length c1) ∧ w3.cell? ⟨w.heap.size, 1, none⟩ = some (.slice a2 h.roots.length c2) ∧ w3.cell? ⟨w.heap.size, 2, none⟩ = some (.int .i64 h.old) ∧ w3.cell? ⟨w.heap.size, 3, none⟩ = some (.int .i64 h.eden) ∧ w3.cell? ⟨w.heap.size, 4, none⟩ = some (.int .i64 h.surv) ∧ w3.cell? ⟨w.heap.size, 5, none⟩ = some (.bool h.flip) ∧ w3.cell? ⟨w.heap.size, 6, none⟩ = some (.int .i64 h.hash) ∧ w3.cell? ⟨w.heap.size, 7, none⟩ = some (.slice a3 h.kept.length c3)  := ⟨S3.c0, S3.c1, S3.c2, S3.c3, S3.c4, S3.c5, S3.c6, S3.c7⟩
    clear K S3
    go_wp2
    exact bodyPost_ret (v := .tuple #[.agg #[.slice none 0 0, .slice none 0 0, .int .i64 0, .int .i64 0, .int .i64 0, .bool false, .int .i64 0, .slice none 0 0], .bool false]) (by simp [results, Tryz.results8, go_sem, r0, r1, r2, r3, r4, r5, r6, r7]) rfl ⟨⟨_, zero_retm AB (put_no AB)⟩, B9⟩
  rw [hr, if_pos rfl] at AT
  obtain ⟨k2, a, ha, ea⟩ := ref_mem hr
  obtain rfl : at8 = a := AT.out.trans ea
  obtain ⟨q1', q2', q3'⟩ := RG.1.obj ha
  have q4' := size_of q3'
  obtain ⟨b, o, cap', e1, hcap, hW⟩ := (i1.later S3.bel).ws (by rw [hl.out]; omega)
  simp only [Value.slice.injEq, true_and] at e1
  obtain ⟨rfl, rfl⟩ := e1
  have ca := hW a (by rw [hl.out]; omega)
  have hai : (a : Int) < h.words.length := by rw [hl.out]; omega
  have ha3 : a < h.words.length := by rw [hl.out]; omega
  have hna : ¬ (a : Int) < 0 := by omega
  have LI := fun W => wl1In_any i 0 (gw h.words a - 1) W
  have PL : Hid (∀ k : Nat, (k : Int) < gw h.words a → a + 4 + k < 3200) := (fun k q => (put_lt RG ha q).2 : ∀ k : Nat, (k : Int) < gw h.words a → a + 4 + k < 3200)
  have PR : Hid (∀ k : Nat, (k : Int) < gw h.words a → RightAt { h with words := h.words.set (a + 4 + k) y, kept := keptOf (h.words.set (a + 4 + k) y) (obC h) } (obC h)) := (fun k q => put_right RG ha q y hft : ∀ k : Nat, (k : Int) < gw h.words a → RightAt { h with words := h.words.set (a + 4 + k) y, kept := keptOf (h.words.set (a + 4 + k) y) (obC h) } (obC h))
  have PB : Hid (putB h x i y = decide (0 ≤ i ∧ i < gw h.words a)) := (by unfold putB; rw [hk, hft, hr, ea]; rfl : putB h x i y = decide (0 ≤ i ∧ i < gw h.words a))
  obtain ⟨q4a, q4b⟩ := q4'
  clear hft AT hW i1 i2 i3 q3'
  by_cases hi : 0 ≤ i ∧ i ≤ gw h.words a - 1
  case neg =>
    have AB : putB h x i y = false := by rw [PB.out]; exact decide_eq_false (by omega)
    rw [decide_eq_false hi] at LI
    clear PL PR PB
    generalize gw h.words a = sz at *
    obtain ⟨fk, K⟩ := S3.res
    have fR := fun i => K.frozen i
    have r0 := K.cell (i := 0) (by omega)
    have r1 := K.cell (i := 1) (by omega)
    have r2 := K.cell (i := 2) (by omega)
    have r3 := K.cell (i := 3) (by omega)
    have r4 := K.cell (i := 4) (by omega)
    have r5 := K.cell (i := 5) (by omega)
    have r6 := K.cell (i := 6) (by omega)
    have r7 := K.cell (i := 7) (by omega)
    have ltR := K.lt
    have B9 : Below w.heap.size w ((((((((w3.setCell ⟨w.heap.size + 1, 0, none⟩ (.slice none 0 0)).setCell ⟨w.heap.size + 1, 1, none⟩ (.slice none 0 0)).setCell ⟨w.heap.size + 1, 2, none⟩ (.int .i64 0)).setCell ⟨w.heap.size + 1, 3, none⟩ (.int .i64 0)).setCell ⟨w.heap.size + 1, 4, none⟩ (.int .i64 0)).setCell ⟨w.heap.size + 1, 5, none⟩ (.bool false)).setCell ⟨w.heap.size + 1, 6, none⟩ (.int .i64 0)).setCell ⟨w.heap.size + 1, 7, none⟩ (.slice none 0 0)) := by
      repeat (refine Below.setCell ?_ (p := ⟨w.heap.size + 1, _, none⟩) (Nat.le_succ _) _)
      exact S3.bel
    obtain ⟨o0, o1, o2, o3, o4, o5, o6, o7⟩ :  w3.cell? ⟨w.heap.size, 0, none⟩ = some (.slice (some ⟨b, o, none⟩) h.words.length c1) ∧ w3.cell? ⟨w.heap.size, 1, none⟩ = some (.slice a2 h.roots.length c2) ∧ w3.cell? ⟨w.heap.size, 2, none⟩ = some (.int .i64 h.old) ∧ w3.cell? ⟨w.heap.size, 3, none⟩ = some (.int .i64 h.eden) ∧ w3.cell? ⟨w.heap.size, 4, none⟩ = some (.int .i64 h.surv) ∧ w3.cell? ⟨w.heap.size, 5, none⟩ = some (.bool h.flip) ∧ w3.cell? ⟨w.heap.size, 6, none⟩ = some (.int .i64 h.hash) ∧ w3.cell? ⟨w.heap.size, 7, none⟩ = some (.slice a3 h.kept.length c3)  := ⟨S3.c0, S3.c1, S3.c2, S3.c3, S3.c4, S3.c5, S3.c6, S3.c7⟩
    clear K S3
    go_wp2_with (go_at_call 29; refine (LI _).mono ?_; rintro e wq ⟨rfl, hq⟩; obtain rfl := hq.symm)
    exact bodyPost_ret (v := .tuple #[.agg #[.slice none 0 0, .slice none 0 0, .int .i64 0, .int .i64 0, .int .i64 0, .bool false, .int .i64 0, .slice none 0 0], .bool false]) (by simp [results, Tryz.results8, go_sem, r0, r1, r2, r3, r4, r5, r6, r7]) rfl ⟨⟨_, zero_retm AB (put_no AB)⟩, B9⟩
  have AB : putB h x i y = true := by rw [PB.out]; exact decide_eq_true (by omega)
  rw [decide_eq_true hi] at LI
  obtain ⟨k, rfl⟩ : ∃ k : Nat, i = k := ⟨i.toNat, by omega⟩
  have hkn : (k : Int) < gw h.words a := by omega
  have hk3 := PL.out k hkn
  have R4 := PR.out k hkn
  have CP := l5Copy_any _ h _ (hv.later S3.bel) hwo hro hke
  obtain ⟨o0, o1, o2, o3, o4, o5, o6, o7⟩ :  w3.cell? ⟨w.heap.size, 0, none⟩ = some (.slice (some ⟨b, o, none⟩) h.words.length c1) ∧ w3.cell? ⟨w.heap.size, 1, none⟩ = some (.slice a2 h.roots.length c2) ∧ w3.cell? ⟨w.heap.size, 2, none⟩ = some (.int .i64 h.old) ∧ w3.cell? ⟨w.heap.size, 3, none⟩ = some (.int .i64 h.eden) ∧ w3.cell? ⟨w.heap.size, 4, none⟩ = some (.int .i64 h.surv) ∧ w3.cell? ⟨w.heap.size, 5, none⟩ = some (.bool h.flip) ∧ w3.cell? ⟨w.heap.size, 6, none⟩ = some (.int .i64 h.hash) ∧ w3.cell? ⟨w.heap.size, 7, none⟩ = some (.slice a3 h.kept.length c3)  := ⟨S3.c0, S3.c1, S3.c2, S3.c3, S3.c4, S3.c5, S3.c6, S3.c7⟩
  have hkl : a + 4 + k < h.words.length := by rw [hl.out]; omega
  have hki : (a : Int) + 4 + k < h.words.length := by rw [hl.out]; omega
  have hk0 : (0 : Int) ≤ (a : Int) + 4 + k := by omega
  clear hi PL PR PB
  generalize hsz : gw h.words a = sz at *
  replace hsz : Hid (gw h.words a = sz) := hsz
  go_wp2_with (go_at_call 29; refine (LI _).mono ?_; rintro e wq ⟨rfl, hq⟩; obtain rfl := hq.symm)
  refine CP.mono ?_
  rintro e w4 ⟨⟨g1, d1, g2, d2, g3, d3, rfl, ⟨q1, q2, q3⟩, ⟨l0, l1, l2⟩, ⟨m1, m2, m3⟩⟩, hb4⟩
  have S4 := S3.later hb4
  have lt3 := S3.lt
  have ltg1 := q1.lt
  have ltg2 := q2.lt
  have ltg3 := q3.lt
  have pc := q1.cell (i := a + 4 + k) hkl
  have pf := fun j => q1.frozen j
  generalize h.words.getD (a + 4 + k) 0 = y0 at *
  clear CP S3 hb4 o0 o1 o2 o3 o4 o5 o6 o7 hv LI ca
  go_wp2_with fail
  obtain ⟨fk, K4⟩ := S4.res
  have al2 := bel_one (w4.setCell ⟨g1, a + 4 + k, none⟩ (.int .i64 y)) (.cells #[.slice (some ⟨g1, 0, none⟩) h.words.length d1, .slice (some ⟨g2, 0, none⟩) h.roots.length d2, .int .i64 h.old, .int .i64 h.eden, .int .i64 h.surv, .bool h.flip, .int .i64 h.hash, .slice (some ⟨g3, 0, none⟩) h.kept.length d3] 26)
  have sz4 : (w4.setCell ⟨g1, a + 4 + k, none⟩ (.int .i64 y)).heap.size = w4.heap.size := by simp
  have X5 := HX.new (w4.setCell ⟨g1, a + 4 + k, none⟩ (.int .i64 y)) (.slice (some ⟨g1, 0, none⟩) h.words.length d1) (.slice (some ⟨g2, 0, none⟩) h.roots.length d2) (.int .i64 h.old) (.int .i64 h.eden) (.int .i64 h.surv) (.bool h.flip) (.int .i64 h.hash) (.slice (some ⟨g3, 0, none⟩) h.kept.length d3)
  rw [sz4] at X5
  have K5 := (K4.setOther (a := ⟨g1, a + 4 + k, none⟩) (by show w.heap.size + 1 ≠ g1; omega) (.int .i64 y))
  have K6 : ((w4.setCell ⟨g1, a + 4 + k, none⟩ (.int .i64 y)).alloc (.cells #[.slice (some ⟨g1, 0, none⟩) h.words.length d1, .slice (some ⟨g2, 0, none⟩) h.roots.length d2, .int .i64 h.old, .int .i64 h.eden, .int .i64 h.surv, .bool h.flip, .int .i64 h.hash, .slice (some ⟨g3, 0, none⟩) h.kept.length d3] 26)).rowIs (w.heap.size + 1) 26 8 fk := K5.of_block (al2.block _ K5.lt)
  have bel5 : Below w.heap.size w ((w4.setCell ⟨g1, a + 4 + k, none⟩ (.int .i64 y)).alloc (.cells #[.slice (some ⟨g1, 0, none⟩) h.words.length d1, .slice (some ⟨g2, 0, none⟩) h.roots.length d2, .int .i64 h.old, .int .i64 h.eden, .int .i64 h.surv, .bool h.flip, .int .i64 h.hash, .slice (some ⟨g3, 0, none⟩) h.kept.length d3] 26)) := (S4.bel.setCell (p := ⟨g1, a + 4 + k, none⟩) (by show w.heap.size ≤ g1; omega) (.int .i64 y)).trans (al2.mono (by have := S4.bel.size; simp; omega))
  have M1 := (q1.set (a + 4 + k) y).later al2
  have M2 := (q2.setOther (b := g1) (i := a + 4 + k) (by omega) (.int .i64 y)).later al2
  have M3 := (q3.setOther (b := g1) (i := a + 4 + k) (by omega) (.int .i64 y)).later al2
  have H5 : HR ((w4.setCell ⟨g1, a + 4 + k, none⟩ (.int .i64 y)).alloc (.cells #[.slice (some ⟨g1, 0, none⟩) h.words.length d1, .slice (some ⟨g2, 0, none⟩) h.roots.length d2, .int .i64 h.old, .int .i64 h.eden, .int .i64 h.surv, .bool h.flip, .int .i64 h.hash, .slice (some ⟨g3, 0, none⟩) h.kept.length d3] 26)) (.agg #[.slice (some ⟨g1, 0, none⟩) h.words.length d1, .slice (some ⟨g2, 0, none⟩) h.roots.length d2, .int .i64 h.old, .int .i64 h.eden, .int .i64 h.surv, .bool h.flip, .int .i64 h.hash, .slice (some ⟨g3, 0, none⟩) h.kept.length d3]) { h with words := h.words.set (a + 4 + k) y } := by
    refine ⟨_, _, _, rfl, ?_, M2.ir M2.le, M3.ir M3.le⟩
    have q := M1.ir M1.le
    rw [List.length_set] at q
    exact q
  have PP : PartsAt { h with words := h.words.set (a + 4 + k) y } (obC h) := parts_same R4.1 _ h.kept h.roots h.hash rfl (fun _ _ _ _ => rfl)
  have szW : ((w4.setCell ⟨g1, a + 4 + k, none⟩ (.int .i64 y)).alloc (.cells #[.slice (some ⟨g1, 0, none⟩) h.words.length d1, .slice (some ⟨g2, 0, none⟩) h.roots.length d2, .int .i64 h.old, .int .i64 h.eden, .int .i64 h.surv, .bool h.flip, .int .i64 h.hash, .slice (some ⟨g3, 0, none⟩) h.kept.length d3] 26)).heap.size = w4.heap.size + 1 := by simp
  clear K4 K5 S4 q1 q2 q3 al2 pc pf
  refine Disk.z_plain 5 (fun W' => HX W' w4.heap.size (.slice (some ⟨g1, 0, none⟩) h.words.length d1) (.slice (some ⟨g2, 0, none⟩) h.roots.length d2) (.int .i64 h.old) (.int .i64 h.eden) (.int .i64 h.surv) (.bool h.flip) (.int .i64 h.hash) (.slice (some ⟨g3, 0, none⟩) h.kept.length d3)) (by kernel_rfl) (X5.later (Below.refl _ _).drew) fun hs => ?_
  refine Disk.z_take 0 49 (v := .agg #[.slice (some ⟨g1, 0, none⟩) h.words.length d1, .slice (some ⟨g2, 0, none⟩) h.roots.length d2, .int .i64 h.old, .int .i64 h.eden, .int .i64 h.surv, .bool h.flip, .int .i64 h.hash, .slice (some ⟨g3, 0, none⟩) h.kept.length d3]) rfl rfl (by kernel_rfl) (by kernel_rfl) (by kernel_rfl) (by kernel_rfl) (by rfl) hs (fun W' hSw => (by
    obtain ⟨s0, s1, s2, s3, s4, s5, s6, s7, -⟩ := hSw
    go_simp; first | done | with_reducible rfl)) ?_
  simp only [List.setIfInBounds_toArray, List.set_cons_zero, List.set_cons_succ]
  refine Disk.z_take 1 50 (v := .agg #[.slice (some ⟨g1, 0, none⟩) h.words.length d1, .slice (some ⟨g2, 0, none⟩) h.roots.length d2, .int .i64 h.old, .int .i64 h.eden, .int .i64 h.surv, .bool h.flip, .int .i64 h.hash, .slice (some ⟨g3, 0, none⟩) h.kept.length d3]) rfl rfl (by kernel_rfl) (by kernel_rfl) (by kernel_rfl) (by kernel_rfl) (by rfl) hs (fun W' hSw => (by
    obtain ⟨s0, s1, s2, s3, s4, s5, s6, s7, -⟩ := hSw
    go_simp; first | done | with_reducible rfl)) ?_
  simp only [List.setIfInBounds_toArray, List.set_cons_zero, List.set_cons_succ]
  refine Disk.z_call 2 51 rfl rfl (by kernel_rfl) (by rfl) (f := 32) (args := #[.agg #[.slice (some ⟨g1, 0, none⟩) h.words.length d1, .slice (some ⟨g2, 0, none⟩) h.roots.length d2, .int .i64 h.old, .int .i64 h.eden, .int .i64 h.surv, .bool h.flip, .int .i64 h.hash, .slice (some ⟨g3, 0, none⟩) h.kept.length d3]]) (w0 := ((w4.setCell ⟨g1, a + 4 + k, none⟩ (.int .i64 y)).alloc (.cells #[.slice (some ⟨g1, 0, none⟩) h.words.length d1, .slice (some ⟨g2, 0, none⟩) h.roots.length d2, .int .i64 h.old, .int .i64 h.eden, .int .i64 h.surv, .bool h.flip, .int .i64 h.hash, .slice (some ⟨g3, 0, none⟩) h.kept.length d3] 26)).drew) (by go_simp) ?_
  refine (l5All_any _ _ _ (H5.later (Below.refl _ _).drew)).mono ?_
  rintro e w6 ⟨⟨l, v', hl3, rfl, ho, hP⟩, hb6⟩
  obtain rfl : l = obC h := (hP _ PP).eq PP
  have b56 : Below ((w4.setCell ⟨g1, a + 4 + k, none⟩ (.int .i64 y)).alloc (.cells #[.slice (some ⟨g1, 0, none⟩) h.words.length d1, .slice (some ⟨g2, 0, none⟩) h.roots.length d2, .int .i64 h.old, .int .i64 h.eden, .int .i64 h.surv, .bool h.flip, .int .i64 h.hash, .slice (some ⟨g3, 0, none⟩) h.kept.length d3] 26)).heap.size ((w4.setCell ⟨g1, a + 4 + k, none⟩ (.int .i64 y)).alloc (.cells #[.slice (some ⟨g1, 0, none⟩) h.words.length d1, .slice (some ⟨g2, 0, none⟩) h.roots.length d2, .int .i64 h.old, .int .i64 h.eden, .int .i64 h.surv, .bool h.flip, .int .i64 h.hash, .slice (some ⟨g3, 0, none⟩) h.kept.length d3] 26)) w6 := bel_after (Below.refl _ _).drew hb6
  have X6 := X5.later b56
  refine ⟨_, rfl, .inr X6, ?_⟩
  simp only [List.setIfInBounds_toArray, List.set_cons_zero, List.set_cons_succ]
  refine Disk.z_call 3 52 rfl rfl (by kernel_rfl) (by rfl) (f := 31) (args := #[.agg #[.slice (some ⟨g1, 0, none⟩) h.words.length d1, .slice (some ⟨g2, 0, none⟩) h.roots.length d2, .int .i64 h.old, .int .i64 h.eden, .int .i64 h.surv, .bool h.flip, .int .i64 h.hash, .slice (some ⟨g3, 0, none⟩) h.kept.length d3], v']) (w0 := w6) (by go_simp) ?_
  refine (l5Kept_own _ v' { h with words := h.words.set (a + 4 + k) y } (obC h) w6 (H5.later b56) (IR_of_owns' ho) (by simp [hl.out]) hl3 (fun b hb => R4.1.obj hb) (fun b hb z hz => half_le (fit_kind ((fld_mem (p := fitB (obC h))).2 (R4.2.2.2.2.2.2.2.1 b hb) z hz)))).mono ?_
  rintro e w7 ⟨⟨v3, rfl, o7⟩, hb7⟩
  have ke : ints (keptS (h.words.set (a + 4 + k) y) (obC h)) = keptOf (h.words.set (a + 4 + k) y) (obC h) := kept_eq (fun b hb => R4.2.2.2.2.2.2.2.1 b hb)
  have o8 : w7.ownsRow (w6.heap.size + 1) 2 1 v3 (putH h a k y).kept.length (icells (putH h a k y).kept) := by
    have e2 : (keptS (h.words.set (a + 4 + k) y) (obC h)).length = (putH h a k y).kept.length := by
      rw [← ints_length, ke]
      rfl
    have q : w7.ownsRow (w6.heap.size + 1) 2 1 v3 (keptS (h.words.set (a + 4 + k) y) (obC h)).length (icells (ints (keptS (h.words.set (a + 4 + k) y) (obC h)))) := o7
    rw [e2, ke] at q
    exact q
  have b57 := bel_after b56 hb7
  have X7 := X6.later hb7
  refine ⟨_, rfl, .inr X7, ?_⟩
  simp only [List.setIfInBounds_toArray, List.set_cons_zero, List.set_cons_succ]
  have fD := fun j => X7.frozen j
  obtain ⟨t0, t1, t2, t3, t4, t5, t6, t7, -⟩ := id X7
  obtain ⟨ao3, cc3, e3, -⟩ := IRs (IR_of_owns o8)
  obtain ⟨nn, hnn⟩ : ∃ nn, nn = (putH h a k y).kept.length := ⟨_, rfl⟩
  rw [← hnn] at e3 o8
  subst e3
  replace hnn : Hid (nn = (putH h a k y).kept.length) := hnn
  refine Disk.z_run 4 53 (w' := w7) (v := .pointer (some ⟨w4.heap.size, 7, none⟩)) rfl rfl (by kernel_rfl) (by rfl) (by go_simp; first | done | with_reducible rfl) (.inr X7) ?_
  simp only [List.setIfInBounds_toArray, List.set_cons_zero, List.set_cons_succ]
  refine Disk.z_skip 5 (w' := w7.setCell ⟨w4.heap.size, 7, none⟩ (.slice ao3 nn cc3)) rfl rfl (by kernel_rfl) (by rfl) (by go_simp; first | done | with_reducible rfl) (.inl rfl) ?_
  refine Disk.z_done (by kernel_rfl) ?_ _
  have X8 := X7.set7 (.slice ao3 nn cc3)
  have sz6 : w4.heap.size + 1 ≤ w6.heap.size := by have := b56.size; omega
  have M1f := (M1.later b57).setOther (b := w4.heap.size) (i := 7) (by omega) (.slice ao3 nn cc3)
  have M2f := (M2.later b57).setOther (b := w4.heap.size) (i := 7) (by omega) (.slice ao3 nn cc3)
  have o8f : (w7.setCell ⟨w4.heap.size, 7, none⟩ (.slice ao3 nn cc3)).ownsRow (w6.heap.size + 1) 2 1 (.slice ao3 nn cc3) nn (icells (putH h a k y).kept) := own_block o8 (fun b hb => Below.heap_setCell _ _ _ _ (by show b ≠ w4.heap.size; omega))
  have K8 := (K6.of_block (b57.block _ K6.lt)).setOther (a := ⟨w4.heap.size, 7, none⟩) (by show w.heap.size + 1 ≠ w4.heap.size; omega) (.slice ao3 nn cc3)
  have bel7 := bel5.trans (b57.mono bel5.size)
  have bel8 := bel7.setCell (p := ⟨w4.heap.size, 7, none⟩) (by show w.heap.size ≤ w4.heap.size; omega) (.slice ao3 nn cc3)
  have OKC : (#[.slice (some ⟨g1, 0, none⟩) h.words.length d1, .slice (some ⟨g2, 0, none⟩) h.roots.length d2, .int .i64 h.old, .int .i64 h.eden, .int .i64 h.surv, .bool h.flip, .int .i64 h.hash, .slice ao3 nn cc3] : Array Value).all (·.oneCell') = true := by simp [Value.oneCell']
  have lt8 : w4.heap.size < w7.heap.size := by have := hb7.size; omega
  clear t0 t1 t2 t3 t4 t5 t6 t7 X5 X6 X7 hs fD M1 M2 M3 H5 PP o7 o8 b56 b57 hb6 hb7 K6 bel5 bel7 ho hP R4
  generalize w7.setCell ⟨w4.heap.size, 7, none⟩ (.slice ao3 nn cc3) = w8 at *
  obtain ⟨t0, t1, t2, t3, t4, t5, t6, t7, -⟩ := id X8
  go_wp2_with ((with_reducible refine store_box _ ?_ (.tmp 8) (.tmp 54) 26 ?_ 26 (w.heap.size + 1) 8 #[.slice (some ⟨g1, 0, none⟩) h.words.length d1, .slice (some ⟨g2, 0, none⟩) h.roots.length d2, .int .i64 h.old, .int .i64 h.eden, .int .i64 h.surv, .bool h.flip, .int .i64 h.hash, .slice ao3 nn cc3] fk ?_ ?_ K8 ?_ ?_ OKC ?_); rfl; rfl; rfl; rfl; rfl; kernel_rfl; intro wA KA GA; have r0 : wA.cell? ⟨w.heap.size + 1, 0, none⟩ = some (.slice (some ⟨g1, 0, none⟩) h.words.length d1) := KA.cell (i := 0) (by omega); have r1 : wA.cell? ⟨w.heap.size + 1, 1, none⟩ = some (.slice (some ⟨g2, 0, none⟩) h.roots.length d2) := KA.cell (i := 1) (by omega); have r2 : wA.cell? ⟨w.heap.size + 1, 2, none⟩ = some (.int .i64 h.old) := KA.cell (i := 2) (by omega); have r3 : wA.cell? ⟨w.heap.size + 1, 3, none⟩ = some (.int .i64 h.eden) := KA.cell (i := 3) (by omega); have r4 : wA.cell? ⟨w.heap.size + 1, 4, none⟩ = some (.int .i64 h.surv) := KA.cell (i := 4) (by omega); have r5 : wA.cell? ⟨w.heap.size + 1, 5, none⟩ = some (.bool h.flip) := KA.cell (i := 5) (by omega); have r6 : wA.cell? ⟨w.heap.size + 1, 6, none⟩ = some (.int .i64 h.hash) := KA.cell (i := 6) (by omega); have r7 : wA.cell? ⟨w.heap.size + 1, 7, none⟩ = some (.slice ao3 nn cc3) := KA.cell (i := 7) (by omega))
  have BA : Below w.heap.size w wA := Below.grown bel8 GA bel8.size (fun q hq => by cases hq; omega)
  have HF : HM w.heap.size wA (.agg #[.slice (some ⟨g1, 0, none⟩) h.words.length d1, .slice (some ⟨g2, 0, none⟩) h.roots.length d2, .int .i64 h.old, .int .i64 h.eden, .int .i64 h.surv, .bool h.flip, .int .i64 h.hash, .slice ao3 nn cc3]) (putC h x k y) := by
    rw [put_yes AB, ea, Int.toNat_natCast, Int.toNat_natCast]
    have oA : wA.ownsRow (w6.heap.size + 1) 2 1 (.slice ao3 nn cc3) (putH h a k y).kept.length (icells (putH h a k y).kept) := by
      rw [← hnn.out]
      obtain ⟨hlx, hx8⟩ := o8f
      refine ⟨hlx, ?_⟩
      rcases hx8 with e | ⟨g, cap, cur, e, hB, hh, r⟩
      · exact .inl e
      · exact .inr ⟨g, cap, cur, e, hB, (GA.block g (Array.getElem?_eq_some_iff.1 hh).1 (by intro e; cases e; omega)).trans hh, r⟩
    have q := HM.of_own3 (h := putH h a k y) (B := w.heap.size) (M1f.grown GA (by intro e; cases e; omega)) (M2f.grown GA (by intro e; cases e; omega)) m1 m2 oA (by omega) (by omega) (by omega) (by omega) (by omega) (by omega)
    rw [show (putH h a k y).words.length = h.words.length from by unfold putH; simp] at q
    exact q
  exact bodyPost_ret (v := .tuple #[.agg #[.slice (some ⟨g1, 0, none⟩) h.words.length d1, .slice (some ⟨g2, 0, none⟩) h.roots.length d2, .int .i64 h.old, .int .i64 h.eden, .int .i64 h.surv, .bool h.flip, .int .i64 h.hash, .slice ao3 nn cc3], .bool true]) (by simp [results, Tryz.results8, go_sem, r0, r1, r2, r3, r4, r5, r6, r7]) rfl ⟨⟨_, by rw [AB], HF⟩, BA⟩

theorem specSet_c (v : Value) (h : Hp) (x i y : Int) (w : World) (hv : HR w v h) (hwo : h.words.length ≤ 1000000000000) (hro : h.roots.length ≤ 1000000000000) (hke : h.kept.length ≤ 1000000000000) (hx : In64 x) (hy : In64 y) :
    Calls Tryz.prog 8 #[v, .int .i64 x, .int .i64 i, .int .i64 y] w fun e w' => (∃ u, e = .returned (.tuple #[u, .bool (putB h x i y)]) ∧ HN w.heap.size w' u (putC h x i y)) ∧ Below w.heap.size w w' :=
  (specSet_m v h x i y w hv hwo hro hke hx hy).mono fun _ _ ⟨⟨u, e, k⟩, b⟩ => ⟨⟨u, e, k.hn⟩, b⟩

end Go.Proofs.YtklafifiphbibaaGreat
