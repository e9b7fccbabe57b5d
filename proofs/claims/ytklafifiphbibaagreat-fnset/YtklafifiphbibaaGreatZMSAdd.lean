/- l7Word and AddRoot of the model. -/
import Derived.Test.YtklafifiphbibaaGreatZV7
import Derived.Test.YtklafifiphbibaaGreatZV9
import Derived.Test.YtklafifiphbibaaGreatZV2
namespace Go.Proofs.YtklafifiphbibaaGreat
open Go.RowKit

theorem fit_even {l : List Nat} {x : Int} (h : x % 2 = 0) : fitB l x = wokB x := by
  have := wok_kind_even h
  unfold fitB
  rw [show decide (kindW x = 2) = false from this.2, show decide (kindW x = 1) = wokB x from this.1]
  simp
theorem fit_odd {l : List Nat} {x : Int} (h : ¬ x % 2 = 0) : fitB l x = (wokB x && (ints l).contains (x / 2)) := by
  have := wok_kind_odd h
  unfold fitB
  rw [show decide (kindW x = 1) = false from this.2, show decide (kindW x = 2) = wokB x from this.1]
  simp
theorem tdiv_pos {x : Int} (h : 1 ≤ x) : x.tdiv 2 = x / 2 := Int.tdiv_eq_ediv_of_nonneg (by omega)

set_option maxRecDepth 100000 in
set_option maxHeartbeats 1600000 in
theorem l7Word_c (v : Value) (h : Hp) (x : Int) (w : World) (hv : HR w v h) (hk : okC h = true) (hx : In64 x) :
    Calls Tryz.prog 27 #[v, .int .i64 x] w fun e w' => e = .returned (.bool (fitB (obC h) x)) ∧ Below w.heap.size w w' := by
  obtain ⟨v1, v2, v3, rfl, i1, i2, i3⟩ := id hv
  have hb0 := bel_one w (.cells #[v1, v2, .int .i64 h.old, .int .i64 h.eden, .int .i64 h.surv, .bool h.flip, .int .i64 h.hash, v3] 26)
  have WO := fun W => specWordOk_any x W
  obtain ⟨hx1, hx2⟩ := hx
  clear i1 i2 i3
  cases hwo : wokB x
  · have FE : Hid (fitB (obC h) x = false) := (by
      by_cases e : x % 2 = 0
      · rw [fit_even e, hwo]
      · rw [fit_odd e, hwo]; rfl : fitB (obC h) x = false)
    rw [hwo] at WO
    go_enter Tryz.func27, Tryz.ntmps27
    go_wp2_with (go_at_call 58; refine (WO _).mono ?_; rintro e wq ⟨rfl, hq⟩; obtain rfl := hq.symm)
    go_ret
    exact ⟨wret_bool FE.out.symm, hb0⟩
  · rw [hwo] at WO
    by_cases he : x % 2 = 0
    · have FE : Hid (fitB (obC h) x = true) := ((fit_even he).trans hwo : fitB (obC h) x = true)
      have tm : (x.tmod 2 == 0) = true := by rw [tmod_two, decide_eq_true he]
      go_enter Tryz.func27, Tryz.ntmps27
      go_wp2_with (go_at_call 58; refine (WO _).mono ?_; rintro e wq ⟨rfl, hq⟩; obtain rfl := hq.symm)
      go_ret
      exact ⟨wret_bool FE.out.symm, hb0⟩
    · have FE : Hid (fitB (obC h) x = isC h (x / 2)) := (by rw [fit_odd he, hwo]; rfl : fitB (obC h) x = isC h (x / 2))
      have tm : (x.tmod 2 == 0) = false := by rw [tmod_two, decide_eq_false he]
      have hp : 1 ≤ x := by
        rw [wok_odd he] at hwo
        exact (of_decide_eq_true hwo).1
      have td := tdiv_pos hp
      have IS := l5Is_c _ h (x / 2) _ (hv.later hb0) hk
      have wd : IntKind.i64.wrap (x / 2) = x / 2 := by rw [IntKind.wrap_i64]; omega
      go_enter Tryz.func27, Tryz.ntmps27
      go_wp2_with (first
        | (go_at_call 58; refine (WO _).mono ?_; rintro e wq ⟨rfl, hq⟩; obtain rfl := hq.symm)
        | (go_at_call 59; refine IS.mono ?_; rintro e w1 ⟨rfl, hb1⟩))
      go_ret
      exact ⟨wret_bool (by rw [FE.out, show (x % 2 == 0) = false from by simp [he]]; rfl), bel_after hb0 hb1⟩

set_option maxRecDepth 100000 in
set_option maxHeartbeats 3200000 in
theorem specAddRoot_m (v : Value) (h : Hp) (x : Int) (w : World) (hv : HR w v h) (hwo : h.words.length ≤ 1000000000000) (hro : h.roots.length ≤ 1000000000000) (hke : h.kept.length ≤ 1000000000000) (hx : In64 x) :
    Calls Tryz.prog 90 #[v, .int .i64 x] w fun e w' => (∃ u, e = .returned (.tuple #[u, .bool (addB h x)]) ∧ HM w.heap.size w' u (addC h x)) ∧ Below w.heap.size w w' := by
  obtain ⟨v1, v2, v3, rfl, i1, i2, i3⟩ := id hv
  obtain ⟨a1, c1, rfl, -⟩ := IRs i1
  obtain ⟨a2, c2, rfl, -⟩ := IRs i2
  obtain ⟨a3, c3, rfl, -⟩ := IRs i3
  have S0 := CS.new w (.slice a1 h.words.length c1) (.slice a2 h.roots.length c2) (.int .i64 h.old) (.int .i64 h.eden) (.int .i64 h.surv) (.bool h.flip) (.int .i64 h.hash) (.slice a3 h.kept.length c3)
  have C := specHeapOk_c _ h _ (hv.later S0.bel) hro hke
  clear i1 i2 i3
  go_enter Tryz.func90, Tryz.ntmps90
  go_wp2_with fail
  refine C.mono ?_
  rintro e w1 ⟨rfl, hb1⟩
  have S1 := S0.later hb1
  clear C S0 hb1
  cases hk : okC h
  · have AB : addB h x = false := by unfold addB; rw [hk]; rfl
    obtain ⟨fk, K⟩ := S1.res
    have fR := fun i => K.frozen i
    have r0 := K.cell (i := 0) (by omega)
    have r1 := K.cell (i := 1) (by omega)
    have r2 := K.cell (i := 2) (by omega)
    have r3 := K.cell (i := 3) (by omega)
    have r4 := K.cell (i := 4) (by omega)
    have r5 := K.cell (i := 5) (by omega)
    have r6 := K.cell (i := 6) (by omega)
    have r7 := K.cell (i := 7) (by omega)
    have ltR := K.lt
    have B9 : Below w.heap.size w ((((((((w1.setCell ⟨w.heap.size + 1, 0, none⟩ (.slice none 0 0)).setCell ⟨w.heap.size + 1, 1, none⟩ (.slice none 0 0)).setCell ⟨w.heap.size + 1, 2, none⟩ (.int .i64 0)).setCell ⟨w.heap.size + 1, 3, none⟩ (.int .i64 0)).setCell ⟨w.heap.size + 1, 4, none⟩ (.int .i64 0)).setCell ⟨w.heap.size + 1, 5, none⟩ (.bool false)).setCell ⟨w.heap.size + 1, 6, none⟩ (.int .i64 0)).setCell ⟨w.heap.size + 1, 7, none⟩ (.slice none 0 0)) := by
      repeat (refine Below.setCell ?_ (p := ⟨w.heap.size + 1, _, none⟩) (Nat.le_succ _) _)
      exact S1.bel
    obtain ⟨o0, o1, o2, o3, o4, o5, o6, o7⟩ :  w1.cell? ⟨w.heap.size, 0, none⟩ = some (.slice a1 h.words.length c1) ∧ w1.cell? ⟨w.heap.size, 1, none⟩ = some (.slice a2 h.roots.length c2) ∧ w1.cell? ⟨w.heap.size, 2, none⟩ = some (.int .i64 h.old) ∧ w1.cell? ⟨w.heap.size, 3, none⟩ = some (.int .i64 h.eden) ∧ w1.cell? ⟨w.heap.size, 4, none⟩ = some (.int .i64 h.surv) ∧ w1.cell? ⟨w.heap.size, 5, none⟩ = some (.bool h.flip) ∧ w1.cell? ⟨w.heap.size, 6, none⟩ = some (.int .i64 h.hash) ∧ w1.cell? ⟨w.heap.size, 7, none⟩ = some (.slice a3 h.kept.length c3)  := ⟨S1.c0, S1.c1, S1.c2, S1.c3, S1.c4, S1.c5, S1.c6, S1.c7⟩
    clear K S1
    go_wp2
    exact bodyPost_ret (v := .tuple #[.agg #[.slice none 0 0, .slice none 0 0, .int .i64 0, .int .i64 0, .int .i64 0, .bool false, .int .i64 0, .slice none 0 0], .bool false]) (by simp [results, Tryz.results90, go_sem, r0, r1, r2, r3, r4, r5, r6, r7]) rfl ⟨⟨_, zero_retm AB (add_no AB)⟩, B9⟩
  have LW := l7Word_c _ h x _ (hv.later S1.bel) hk hx
  obtain ⟨o0, o1, o2, o3, o4, o5, o6, o7⟩ :  w1.cell? ⟨w.heap.size, 0, none⟩ = some (.slice a1 h.words.length c1) ∧ w1.cell? ⟨w.heap.size, 1, none⟩ = some (.slice a2 h.roots.length c2) ∧ w1.cell? ⟨w.heap.size, 2, none⟩ = some (.int .i64 h.old) ∧ w1.cell? ⟨w.heap.size, 3, none⟩ = some (.int .i64 h.eden) ∧ w1.cell? ⟨w.heap.size, 4, none⟩ = some (.int .i64 h.surv) ∧ w1.cell? ⟨w.heap.size, 5, none⟩ = some (.bool h.flip) ∧ w1.cell? ⟨w.heap.size, 6, none⟩ = some (.int .i64 h.hash) ∧ w1.cell? ⟨w.heap.size, 7, none⟩ = some (.slice a3 h.kept.length c3)  := ⟨S1.c0, S1.c1, S1.c2, S1.c3, S1.c4, S1.c5, S1.c6, S1.c7⟩
  go_wp2_with fail
  refine LW.mono ?_
  rintro e w2 ⟨rfl, hb2⟩
  have S2 := S1.later hb2
  clear S1 LW hb2 o0 o1 o2 o3 o4 o5 o6 o7
  cases hft : fitB (obC h) x
  · have AB : addB h x = false := by unfold addB; rw [hk, hft]; rfl
    obtain ⟨fk, K⟩ := S2.res
    have fR := fun i => K.frozen i
    have r0 := K.cell (i := 0) (by omega)
    have r1 := K.cell (i := 1) (by omega)
    have r2 := K.cell (i := 2) (by omega)
    have r3 := K.cell (i := 3) (by omega)
    have r4 := K.cell (i := 4) (by omega)
    have r5 := K.cell (i := 5) (by omega)
    have r6 := K.cell (i := 6) (by omega)
    have r7 := K.cell (i := 7) (by omega)
    have ltR := K.lt
    have B9 : Below w.heap.size w ((((((((w2.setCell ⟨w.heap.size + 1, 0, none⟩ (.slice none 0 0)).setCell ⟨w.heap.size + 1, 1, none⟩ (.slice none 0 0)).setCell ⟨w.heap.size + 1, 2, none⟩ (.int .i64 0)).setCell ⟨w.heap.size + 1, 3, none⟩ (.int .i64 0)).setCell ⟨w.heap.size + 1, 4, none⟩ (.int .i64 0)).setCell ⟨w.heap.size + 1, 5, none⟩ (.bool false)).setCell ⟨w.heap.size + 1, 6, none⟩ (.int .i64 0)).setCell ⟨w.heap.size + 1, 7, none⟩ (.slice none 0 0)) := by
      repeat (refine Below.setCell ?_ (p := ⟨w.heap.size + 1, _, none⟩) (Nat.le_succ _) _)
      exact S2.bel
    obtain ⟨o0, o1, o2, o3, o4, o5, o6, o7⟩ :  w2.cell? ⟨w.heap.size, 0, none⟩ = some (.slice a1 h.words.length c1) ∧ w2.cell? ⟨w.heap.size, 1, none⟩ = some (.slice a2 h.roots.length c2) ∧ w2.cell? ⟨w.heap.size, 2, none⟩ = some (.int .i64 h.old) ∧ w2.cell? ⟨w.heap.size, 3, none⟩ = some (.int .i64 h.eden) ∧ w2.cell? ⟨w.heap.size, 4, none⟩ = some (.int .i64 h.surv) ∧ w2.cell? ⟨w.heap.size, 5, none⟩ = some (.bool h.flip) ∧ w2.cell? ⟨w.heap.size, 6, none⟩ = some (.int .i64 h.hash) ∧ w2.cell? ⟨w.heap.size, 7, none⟩ = some (.slice a3 h.kept.length c3)  := ⟨S2.c0, S2.c1, S2.c2, S2.c3, S2.c4, S2.c5, S2.c6, S2.c7⟩
    clear K S2
    go_wp2
    exact bodyPost_ret (v := .tuple #[.agg #[.slice none 0 0, .slice none 0 0, .int .i64 0, .int .i64 0, .int .i64 0, .bool false, .int .i64 0, .slice none 0 0], .bool false]) (by simp [results, Tryz.results90, go_sem, r0, r1, r2, r3, r4, r5, r6, r7]) rfl ⟨⟨_, zero_retm AB (add_no AB)⟩, B9⟩
  by_cases h20 : h.roots.length = 20
  · have AB : addB h x = false := by unfold addB; rw [hk, hft, h20]; rfl
    have t20 : ((h.roots.length : Int) == 20) = true := by rw [h20]; rfl
    replace h20 : Hid (h.roots.length = 20) := h20
    obtain ⟨fk, K⟩ := S2.res
    have fR := fun i => K.frozen i
    have r0 := K.cell (i := 0) (by omega)
    have r1 := K.cell (i := 1) (by omega)
    have r2 := K.cell (i := 2) (by omega)
    have r3 := K.cell (i := 3) (by omega)
    have r4 := K.cell (i := 4) (by omega)
    have r5 := K.cell (i := 5) (by omega)
    have r6 := K.cell (i := 6) (by omega)
    have r7 := K.cell (i := 7) (by omega)
    have ltR := K.lt
    have B9 : Below w.heap.size w ((((((((w2.setCell ⟨w.heap.size + 1, 0, none⟩ (.slice none 0 0)).setCell ⟨w.heap.size + 1, 1, none⟩ (.slice none 0 0)).setCell ⟨w.heap.size + 1, 2, none⟩ (.int .i64 0)).setCell ⟨w.heap.size + 1, 3, none⟩ (.int .i64 0)).setCell ⟨w.heap.size + 1, 4, none⟩ (.int .i64 0)).setCell ⟨w.heap.size + 1, 5, none⟩ (.bool false)).setCell ⟨w.heap.size + 1, 6, none⟩ (.int .i64 0)).setCell ⟨w.heap.size + 1, 7, none⟩ (.slice none 0 0)) := by
      repeat (refine Below.setCell ?_ (p := ⟨w.heap.size + 1, _, none⟩) (Nat.le_succ _) _)
      exact S2.bel
    obtain ⟨o0, o1, o2, o3, o4, o5, o6, o7⟩ :  w2.cell? ⟨w.heap.size, 0, none⟩ = some (.slice a1 h.words.length c1) ∧ w2.cell? ⟨w.heap.size, 1, none⟩ = some (.slice a2 h.roots.length c2) ∧ w2.cell? ⟨w.heap.size, 2, none⟩ = some (.int .i64 h.old) ∧ w2.cell? ⟨w.heap.size, 3, none⟩ = some (.int .i64 h.eden) ∧ w2.cell? ⟨w.heap.size, 4, none⟩ = some (.int .i64 h.surv) ∧ w2.cell? ⟨w.heap.size, 5, none⟩ = some (.bool h.flip) ∧ w2.cell? ⟨w.heap.size, 6, none⟩ = some (.int .i64 h.hash) ∧ w2.cell? ⟨w.heap.size, 7, none⟩ = some (.slice a3 h.kept.length c3)  := ⟨S2.c0, S2.c1, S2.c2, S2.c3, S2.c4, S2.c5, S2.c6, S2.c7⟩
    clear K S2
    go_wp2
    exact bodyPost_ret (v := .tuple #[.agg #[.slice none 0 0, .slice none 0 0, .int .i64 0, .int .i64 0, .int .i64 0, .bool false, .int .i64 0, .slice none 0 0], .bool false]) (by simp [results, Tryz.results90, go_sem, r0, r1, r2, r3, r4, r5, r6, r7]) rfl ⟨⟨_, zero_retm AB (add_no AB)⟩, B9⟩
  have AB : addB h x = true := by unfold addB; rw [hk, hft, decide_eq_false h20]; rfl
  have t20 : ((h.roots.length : Int) == 20) = false := by rw [beq_eq_false_iff_ne]; omega
  have lr : h.roots.length ≤ 20 := (ok_len hk).2.2.2.2.2
  have CP := l5Copy_any _ h _ (hv.later S2.bel) hwo hro hke
  obtain ⟨o0, o1, o2, o3, o4, o5, o6, o7⟩ :  w2.cell? ⟨w.heap.size, 0, none⟩ = some (.slice a1 h.words.length c1) ∧ w2.cell? ⟨w.heap.size, 1, none⟩ = some (.slice a2 h.roots.length c2) ∧ w2.cell? ⟨w.heap.size, 2, none⟩ = some (.int .i64 h.old) ∧ w2.cell? ⟨w.heap.size, 3, none⟩ = some (.int .i64 h.eden) ∧ w2.cell? ⟨w.heap.size, 4, none⟩ = some (.int .i64 h.surv) ∧ w2.cell? ⟨w.heap.size, 5, none⟩ = some (.bool h.flip) ∧ w2.cell? ⟨w.heap.size, 6, none⟩ = some (.int .i64 h.hash) ∧ w2.cell? ⟨w.heap.size, 7, none⟩ = some (.slice a3 h.kept.length c3)  := ⟨S2.c0, S2.c1, S2.c2, S2.c3, S2.c4, S2.c5, S2.c6, S2.c7⟩
  clear h20 hft
  go_wp2_with fail
  refine CP.mono ?_
  rintro e w3 ⟨⟨g1, d1, g2, d2, g3, d3, rfl, ⟨q1, q2, q3⟩, ⟨l0, l1, l2⟩, ⟨m1, m2, m3⟩⟩, hb3⟩
  have al := bel_one w3 (.cells #[.slice (some ⟨g1, 0, none⟩) h.words.length d1, .slice (some ⟨g2, 0, none⟩) h.roots.length d2, .int .i64 h.old, .int .i64 h.eden, .int .i64 h.surv, .bool h.flip, .int .i64 h.hash, .slice (some ⟨g3, 0, none⟩) h.kept.length d3] 26)
  have b1 := bel_one (w3.alloc (.cells #[.slice (some ⟨g1, 0, none⟩) h.words.length d1, .slice (some ⟨g2, 0, none⟩) h.roots.length d2, .int .i64 h.old, .int .i64 h.eden, .int .i64 h.surv, .bool h.flip, .int .i64 h.hash, .slice (some ⟨g3, 0, none⟩) h.kept.length d3] 26)) (.cells #[.int .i64 x] 2)
  have S3 := ((S2.later hb3).later al).later b1
  have lt2 := S2.lt
  have P1 := (q1.later al).later b1
  have P2 := (q2.later al).later b1
  have P3 := (q3.later al).later b1
  have ltg1 := q1.lt
  have ltg2 := q2.lt
  have ltg3 := q3.lt
  obtain ⟨fd, D2⟩ : ∃ fd, (w3.alloc (.cells #[.slice (some ⟨g1, 0, none⟩) h.words.length d1, .slice (some ⟨g2, 0, none⟩) h.roots.length d2, .int .i64 h.old, .int .i64 h.eden, .int .i64 h.surv, .bool h.flip, .int .i64 h.hash, .slice (some ⟨g3, 0, none⟩) h.kept.length d3] 26)).rowIs w3.heap.size 26 8 fd := ⟨_, row_any w3 #[.slice (some ⟨g1, 0, none⟩) h.words.length d1, .slice (some ⟨g2, 0, none⟩) h.roots.length d2, .int .i64 h.old, .int .i64 h.eden, .int .i64 h.surv, .bool h.flip, .int .i64 h.hash, .slice (some ⟨g3, 0, none⟩) h.kept.length d3] 26⟩
  have D3 := D2.of_block (b1.block _ D2.lt)
  have d_0 := cell_later b1 (cell_new w3 #[.slice (some ⟨g1, 0, none⟩) h.words.length d1, .slice (some ⟨g2, 0, none⟩) h.roots.length d2, .int .i64 h.old, .int .i64 h.eden, .int .i64 h.surv, .bool h.flip, .int .i64 h.hash, .slice (some ⟨g3, 0, none⟩) h.kept.length d3] 26 _ rfl 0 _ rfl)
  have d_1 := cell_later b1 (cell_new w3 #[.slice (some ⟨g1, 0, none⟩) h.words.length d1, .slice (some ⟨g2, 0, none⟩) h.roots.length d2, .int .i64 h.old, .int .i64 h.eden, .int .i64 h.surv, .bool h.flip, .int .i64 h.hash, .slice (some ⟨g3, 0, none⟩) h.kept.length d3] 26 _ rfl 1 _ rfl)
  have d_2 := cell_later b1 (cell_new w3 #[.slice (some ⟨g1, 0, none⟩) h.words.length d1, .slice (some ⟨g2, 0, none⟩) h.roots.length d2, .int .i64 h.old, .int .i64 h.eden, .int .i64 h.surv, .bool h.flip, .int .i64 h.hash, .slice (some ⟨g3, 0, none⟩) h.kept.length d3] 26 _ rfl 2 _ rfl)
  have d_3 := cell_later b1 (cell_new w3 #[.slice (some ⟨g1, 0, none⟩) h.words.length d1, .slice (some ⟨g2, 0, none⟩) h.roots.length d2, .int .i64 h.old, .int .i64 h.eden, .int .i64 h.surv, .bool h.flip, .int .i64 h.hash, .slice (some ⟨g3, 0, none⟩) h.kept.length d3] 26 _ rfl 3 _ rfl)
  have d_4 := cell_later b1 (cell_new w3 #[.slice (some ⟨g1, 0, none⟩) h.words.length d1, .slice (some ⟨g2, 0, none⟩) h.roots.length d2, .int .i64 h.old, .int .i64 h.eden, .int .i64 h.surv, .bool h.flip, .int .i64 h.hash, .slice (some ⟨g3, 0, none⟩) h.kept.length d3] 26 _ rfl 4 _ rfl)
  have d_5 := cell_later b1 (cell_new w3 #[.slice (some ⟨g1, 0, none⟩) h.words.length d1, .slice (some ⟨g2, 0, none⟩) h.roots.length d2, .int .i64 h.old, .int .i64 h.eden, .int .i64 h.surv, .bool h.flip, .int .i64 h.hash, .slice (some ⟨g3, 0, none⟩) h.kept.length d3] 26 _ rfl 5 _ rfl)
  have d_6 := cell_later b1 (cell_new w3 #[.slice (some ⟨g1, 0, none⟩) h.words.length d1, .slice (some ⟨g2, 0, none⟩) h.roots.length d2, .int .i64 h.old, .int .i64 h.eden, .int .i64 h.surv, .bool h.flip, .int .i64 h.hash, .slice (some ⟨g3, 0, none⟩) h.kept.length d3] 26 _ rfl 6 _ rfl)
  have d_7 := cell_later b1 (cell_new w3 #[.slice (some ⟨g1, 0, none⟩) h.words.length d1, .slice (some ⟨g2, 0, none⟩) h.roots.length d2, .int .i64 h.old, .int .i64 h.eden, .int .i64 h.surv, .bool h.flip, .int .i64 h.hash, .slice (some ⟨g3, 0, none⟩) h.kept.length d3] 26 _ rfl 7 _ rfl)
  have I3 : IR ((w3.alloc (.cells #[.slice (some ⟨g1, 0, none⟩) h.words.length d1, .slice (some ⟨g2, 0, none⟩) h.roots.length d2, .int .i64 h.old, .int .i64 h.eden, .int .i64 h.surv, .bool h.flip, .int .i64 h.hash, .slice (some ⟨g3, 0, none⟩) h.kept.length d3] 26)).alloc (.cells #[.int .i64 x] 2)) (.slice (some ⟨w3.heap.size + 1, 0, none⟩) 1 1) [x] := by
    have q := (row_one (w3.alloc (.cells #[.slice (some ⟨g1, 0, none⟩) h.words.length d1, .slice (some ⟨g2, 0, none⟩) h.roots.length d2, .int .i64 h.old, .int .i64 h.eden, .int .i64 h.surv, .bool h.flip, .int .i64 h.hash, .slice (some ⟨g3, 0, none⟩) h.kept.length d3] 26)) x).ir (cap := 1) (Nat.le_refl _)
    rw [World.size_alloc] at q
    exact q
  have szB : ((w3.alloc (.cells #[.slice (some ⟨g1, 0, none⟩) h.words.length d1, .slice (some ⟨g2, 0, none⟩) h.roots.length d2, .int .i64 h.old, .int .i64 h.eden, .int .i64 h.surv, .bool h.flip, .int .i64 h.hash, .slice (some ⟨g3, 0, none⟩) h.kept.length d3] 26)).alloc (.cells #[.int .i64 x] 2)).heap.size = w3.heap.size + 1 + 1 := by simp
  clear CP S2 hb3 q1 q2 q3 al o0 o1 o2 o3 o4 o5 o6 o7 hv
  go_wp2_with (at_builtin; refine app_ri _ rfl _ _ rfl g2 d2 h.roots.length h.roots rfl rfl P2 (by omega) m2 (some ⟨w3.heap.size + 1, 0, none⟩) 1 1 [x] rfl rfl I3 (by simp) ?_; intro g' c' w4 P4 G4 wh mc; rw [szB] at wh; have sz4 := G4.size; rw [szB] at sz4; have k0 := G4.cell d_0 (by simp <;> omega); have k1 := G4.cell d_1 (by simp <;> omega); have k2 := G4.cell d_2 (by simp <;> omega); have k3 := G4.cell d_3 (by simp <;> omega); have k4 := G4.cell d_4 (by simp <;> omega); have k5 := G4.cell d_5 (by simp <;> omega); have k6 := G4.cell d_6 (by simp <;> omega); have k7 := G4.cell d_7 (by simp <;> omega); have D4 := D3.of_block (G4.block _ (by rw [szB]; omega) (by simp <;> omega)); have fD := (fun i => D4.frozen i); have S4 := S3.grown G4 (by omega); have M1 := P1.grown G4 (by simp <;> omega); have M3 := P3.grown G4 (by simp <;> omega); have ng : g' ≠ w3.heap.size ∧ w.heap.size + 1 < g' ∧ g1 ≠ g' ∧ g' ≠ g3 := (by rcases wh with e | ⟨e, _⟩ <;> omega); obtain ⟨fk, K4⟩ := S4.res; have fR := (fun i => K4.frozen i); have r0 := K4.cell (i := 0) (by omega); have r1 := K4.cell (i := 1) (by omega); have r2 := K4.cell (i := 2) (by omega); have r3 := K4.cell (i := 3) (by omega); have r4 := K4.cell (i := 4) (by omega); have r5 := K4.cell (i := 5) (by omega); have r6 := K4.cell (i := 6) (by omega); have r7 := K4.cell (i := 7) (by omega); have bel4 := S4.bel; have lw4 : w3.heap.size < w4.heap.size := (by omega); have lw5 : w.heap.size + 1 < w4.heap.size := (by omega); clear D3 D4 K4 S3 S4 P1 P2 P3 G4 wh I3 d_0 d_1 d_2 d_3 d_4 d_5 d_6 d_7)
  obtain ⟨ng1, ng2, ng3, ng4⟩ := ng
  have T1 : RI (((((((((w4.setCell ⟨w3.heap.size, 1, none⟩ (.slice (some ⟨g', 0, none⟩) (h.roots.length + 1) c')).setCell ⟨w.heap.size + 1, 0, none⟩ (.slice (some ⟨g1, 0, none⟩) h.words.length d1)).setCell ⟨w.heap.size + 1, 1, none⟩ (.slice (some ⟨g', 0, none⟩) (h.roots.length + 1) c')).setCell ⟨w.heap.size + 1, 2, none⟩ (.int .i64 h.old)).setCell ⟨w.heap.size + 1, 3, none⟩ (.int .i64 h.eden)).setCell ⟨w.heap.size + 1, 4, none⟩ (.int .i64 h.surv)).setCell ⟨w.heap.size + 1, 5, none⟩ (.bool h.flip)).setCell ⟨w.heap.size + 1, 6, none⟩ (.int .i64 h.hash)).setCell ⟨w.heap.size + 1, 7, none⟩ (.slice (some ⟨g3, 0, none⟩) h.kept.length d3)) g1 h.words d1 := (RI.setOther (RI.setOther (RI.setOther (RI.setOther (RI.setOther (RI.setOther (RI.setOther (RI.setOther (M1.setOther (b := w3.heap.size) (i := 1) (by omega) (.slice (some ⟨g', 0, none⟩) (h.roots.length + 1) c')) (by omega) _) (by omega) _) (by omega) _) (by omega) _) (by omega) _) (by omega) _) (by omega) _) (by omega) _)
  have T2 : RI (((((((((w4.setCell ⟨w3.heap.size, 1, none⟩ (.slice (some ⟨g', 0, none⟩) (h.roots.length + 1) c')).setCell ⟨w.heap.size + 1, 0, none⟩ (.slice (some ⟨g1, 0, none⟩) h.words.length d1)).setCell ⟨w.heap.size + 1, 1, none⟩ (.slice (some ⟨g', 0, none⟩) (h.roots.length + 1) c')).setCell ⟨w.heap.size + 1, 2, none⟩ (.int .i64 h.old)).setCell ⟨w.heap.size + 1, 3, none⟩ (.int .i64 h.eden)).setCell ⟨w.heap.size + 1, 4, none⟩ (.int .i64 h.surv)).setCell ⟨w.heap.size + 1, 5, none⟩ (.bool h.flip)).setCell ⟨w.heap.size + 1, 6, none⟩ (.int .i64 h.hash)).setCell ⟨w.heap.size + 1, 7, none⟩ (.slice (some ⟨g3, 0, none⟩) h.kept.length d3)) g' (h.roots ++ [x]) c' := (RI.setOther (RI.setOther (RI.setOther (RI.setOther (RI.setOther (RI.setOther (RI.setOther (RI.setOther (P4.setOther (b := w3.heap.size) (i := 1) ng1 (.slice (some ⟨g', 0, none⟩) (h.roots.length + 1) c')) (by omega) _) (by omega) _) (by omega) _) (by omega) _) (by omega) _) (by omega) _) (by omega) _) (by omega) _)
  have T3 : RI (((((((((w4.setCell ⟨w3.heap.size, 1, none⟩ (.slice (some ⟨g', 0, none⟩) (h.roots.length + 1) c')).setCell ⟨w.heap.size + 1, 0, none⟩ (.slice (some ⟨g1, 0, none⟩) h.words.length d1)).setCell ⟨w.heap.size + 1, 1, none⟩ (.slice (some ⟨g', 0, none⟩) (h.roots.length + 1) c')).setCell ⟨w.heap.size + 1, 2, none⟩ (.int .i64 h.old)).setCell ⟨w.heap.size + 1, 3, none⟩ (.int .i64 h.eden)).setCell ⟨w.heap.size + 1, 4, none⟩ (.int .i64 h.surv)).setCell ⟨w.heap.size + 1, 5, none⟩ (.bool h.flip)).setCell ⟨w.heap.size + 1, 6, none⟩ (.int .i64 h.hash)).setCell ⟨w.heap.size + 1, 7, none⟩ (.slice (some ⟨g3, 0, none⟩) h.kept.length d3)) g3 h.kept d3 := (RI.setOther (RI.setOther (RI.setOther (RI.setOther (RI.setOther (RI.setOther (RI.setOther (RI.setOther (M3.setOther (b := w3.heap.size) (i := 1) (by omega) (.slice (some ⟨g', 0, none⟩) (h.roots.length + 1) c')) (by omega) _) (by omega) _) (by omega) _) (by omega) _) (by omega) _) (by omega) _) (by omega) _) (by omega) _)
  have B9 : Below w.heap.size w (((((((((w4.setCell ⟨w3.heap.size, 1, none⟩ (.slice (some ⟨g', 0, none⟩) (h.roots.length + 1) c')).setCell ⟨w.heap.size + 1, 0, none⟩ (.slice (some ⟨g1, 0, none⟩) h.words.length d1)).setCell ⟨w.heap.size + 1, 1, none⟩ (.slice (some ⟨g', 0, none⟩) (h.roots.length + 1) c')).setCell ⟨w.heap.size + 1, 2, none⟩ (.int .i64 h.old)).setCell ⟨w.heap.size + 1, 3, none⟩ (.int .i64 h.eden)).setCell ⟨w.heap.size + 1, 4, none⟩ (.int .i64 h.surv)).setCell ⟨w.heap.size + 1, 5, none⟩ (.bool h.flip)).setCell ⟨w.heap.size + 1, 6, none⟩ (.int .i64 h.hash)).setCell ⟨w.heap.size + 1, 7, none⟩ (.slice (some ⟨g3, 0, none⟩) h.kept.length d3)) := by
    repeat (refine Below.setCell ?_ (p := ⟨w.heap.size + 1, _, none⟩) (Nat.le_succ _) _)
    exact bel4.setCell (p := ⟨w3.heap.size, 1, none⟩) (by show w.heap.size ≤ w3.heap.size; omega) _
  have HF : HM w.heap.size (((((((((w4.setCell ⟨w3.heap.size, 1, none⟩ (.slice (some ⟨g', 0, none⟩) (h.roots.length + 1) c')).setCell ⟨w.heap.size + 1, 0, none⟩ (.slice (some ⟨g1, 0, none⟩) h.words.length d1)).setCell ⟨w.heap.size + 1, 1, none⟩ (.slice (some ⟨g', 0, none⟩) (h.roots.length + 1) c')).setCell ⟨w.heap.size + 1, 2, none⟩ (.int .i64 h.old)).setCell ⟨w.heap.size + 1, 3, none⟩ (.int .i64 h.eden)).setCell ⟨w.heap.size + 1, 4, none⟩ (.int .i64 h.surv)).setCell ⟨w.heap.size + 1, 5, none⟩ (.bool h.flip)).setCell ⟨w.heap.size + 1, 6, none⟩ (.int .i64 h.hash)).setCell ⟨w.heap.size + 1, 7, none⟩ (.slice (some ⟨g3, 0, none⟩) h.kept.length d3)) (.agg #[.slice (some ⟨g1, 0, none⟩) h.words.length d1, .slice (some ⟨g', 0, none⟩) (h.roots.length + 1) c', .int .i64 h.old, .int .i64 h.eden, .int .i64 h.surv, .bool h.flip, .int .i64 h.hash, .slice (some ⟨g3, 0, none⟩) h.kept.length d3]) (addC h x) := by
    rw [add_yes AB]
    have q := HM.of_rows (h := { h with roots := h.roots ++ [x] }) (B := w.heap.size) T1 T2 T3 m1 mc m3 (by omega) (by omega) (by omega) ng3 (by omega) ng4
    rw [show ({ h with roots := h.roots ++ [x] } : Hp).roots.length = h.roots.length + 1 from by simp] at q
    exact q
  exact bodyPost_ret (v := .tuple #[.agg #[.slice (some ⟨g1, 0, none⟩) h.words.length d1, .slice (some ⟨g', 0, none⟩) (h.roots.length + 1) c', .int .i64 h.old, .int .i64 h.eden, .int .i64 h.surv, .bool h.flip, .int .i64 h.hash, .slice (some ⟨g3, 0, none⟩) h.kept.length d3], .bool true]) (by simp [results, Tryz.results90, go_sem, r0, r1, r2, r3, r4, r5, r6, r7]) rfl ⟨⟨_, by rw [AB], HF⟩, B9⟩

end Go.Proofs.YtklafifiphbibaaGreat
