/- New of the model. -/
import Derived.Test.YtgacacbncefeaaaGreatZP3
import Derived.Test.YtgacacbncefeaaaGreatZHM
namespace Go.Proofs.YtgacacbncefeaaaGreat
open Go.RowKit

set_option maxRecDepth 100000 in
set_option maxHeartbeats 3200000 in
theorem specNew_m (v : Value) (h : Hp) (k n : Int) (w : World) (hv : HR w v h) (hwo : h.words.length ≤ 1000000000000) (hro : h.roots.length ≤ 1000000000000) (hke : h.kept.length ≤ 1000000000000) :
    Calls Tryz.prog 40 #[v, .int .i64 k, .int .i64 n] w fun e w' => (∃ u, e = .returned (.tuple #[u, .int .i64 (newW' h k n), .bool (newB h k n)]) ∧ HM w.heap.size w' u (newC h k n)) ∧ Below w.heap.size w w' := by
  obtain ⟨v1, v2, v3, rfl, i1, i2, i3⟩ := id hv
  obtain ⟨a1, c1, rfl, -⟩ := IRs i1
  obtain ⟨a2, c2, rfl, -⟩ := IRs i2
  obtain ⟨a3, c3, rfl, -⟩ := IRs i3
  have S0 := CS.new w (.slice a1 h.words.length c1) (.slice a2 h.roots.length c2) (.int .i64 h.old) (.int .i64 h.eden) (.int .i64 h.surv) (.bool h.flip) (.int .i64 h.hash) (.slice a3 h.kept.length c3)
  have C := specHeapOk_c _ h _ (hv.later S0.bel) hro hke
  clear i1 i2 i3
  go_enter Tryz.func40, Tryz.ntmps40
  go_wp2_with fail
  refine C.mono ?_
  rintro e w1 ⟨rfl, hb1⟩
  have S1 := S0.later hb1
  clear C S0 hb1
  cases hk : okC h
  · have AB : newB h k n = false := by unfold newB; rw [hk]; rfl
    obtain ⟨fk, K⟩ := S1.res
    have fR := fun i => K.frozen i
    have r0 := K.cell (i := 0) (by omega)
    have r1 := K.cell (i := 1) (by omega)
    have r2 := K.cell (i := 2) (by omega)
    have r3 := K.cell (i := 3) (by omega)
    have r4 := K.cell (i := 4) (by omega)
    have r5 := K.cell (i := 5) (by omega)
    have r6 := K.cell (i := 6) (by omega)
    have r7 := K.cell (i := 7) (by omega)
    have ltR := K.lt
    have B9 : Below w.heap.size w ((((((((w1.setCell ⟨w.heap.size + 1, 0, none⟩ (.slice none 0 0)).setCell ⟨w.heap.size + 1, 1, none⟩ (.slice none 0 0)).setCell ⟨w.heap.size + 1, 2, none⟩ (.int .i64 0)).setCell ⟨w.heap.size + 1, 3, none⟩ (.int .i64 0)).setCell ⟨w.heap.size + 1, 4, none⟩ (.int .i64 0)).setCell ⟨w.heap.size + 1, 5, none⟩ (.bool false)).setCell ⟨w.heap.size + 1, 6, none⟩ (.int .i64 0)).setCell ⟨w.heap.size + 1, 7, none⟩ (.slice none 0 0)) := by
      repeat (refine Below.setCell ?_ (p := ⟨w.heap.size + 1, _, none⟩) (Nat.le_succ _) _)
      exact S1.bel
    obtain ⟨o0, o1, o2, o3, o4, o5, o6, o7⟩ :  w1.cell? ⟨w.heap.size, 0, none⟩ = some (.slice a1 h.words.length c1) ∧ w1.cell? ⟨w.heap.size, 1, none⟩ = some (.slice a2 h.roots.length c2) ∧ w1.cell? ⟨w.heap.size, 2, none⟩ = some (.int .i64 h.old) ∧ w1.cell? ⟨w.heap.size, 3, none⟩ = some (.int .i64 h.eden) ∧ w1.cell? ⟨w.heap.size, 4, none⟩ = some (.int .i64 h.surv) ∧ w1.cell? ⟨w.heap.size, 5, none⟩ = some (.bool h.flip) ∧ w1.cell? ⟨w.heap.size, 6, none⟩ = some (.int .i64 h.hash) ∧ w1.cell? ⟨w.heap.size, 7, none⟩ = some (.slice a3 h.kept.length c3)  := ⟨S1.c0, S1.c1, S1.c2, S1.c3, S1.c4, S1.c5, S1.c6, S1.c7⟩
    clear K S1
    go_wp2
    exact bodyPost_ret (v := .tuple #[.agg #[.slice none 0 0, .slice none 0 0, .int .i64 0, .int .i64 0, .int .i64 0, .bool false, .int .i64 0, .slice none 0 0], .int .i64 0, .bool false]) (by simp [results, Tryz.results40, go_sem, r0, r1, r2, r3, r4, r5, r6, r7]) rfl ⟨⟨_, zero_ret3m AB (new_no AB) (new_w0 AB)⟩, B9⟩
  obtain ⟨ok1, ok2, ok3, ok4, ok5, ok6⟩ := ok_len hk
  by_cases hck : 0 ≤ k ∧ k ≤ 99
  case neg =>
    have AB : newB h k n = false := by unfold newB; rw [hk, decide_eq_false hck]; rfl
    have DK := decide_eq_false hck
    clear ok1
    obtain ⟨fk, K⟩ := S1.res
    have fR := fun i => K.frozen i
    have r0 := K.cell (i := 0) (by omega)
    have r1 := K.cell (i := 1) (by omega)
    have r2 := K.cell (i := 2) (by omega)
    have r3 := K.cell (i := 3) (by omega)
    have r4 := K.cell (i := 4) (by omega)
    have r5 := K.cell (i := 5) (by omega)
    have r6 := K.cell (i := 6) (by omega)
    have r7 := K.cell (i := 7) (by omega)
    have ltR := K.lt
    have B9 : Below w.heap.size w ((((((((w1.setCell ⟨w.heap.size + 1, 0, none⟩ (.slice none 0 0)).setCell ⟨w.heap.size + 1, 1, none⟩ (.slice none 0 0)).setCell ⟨w.heap.size + 1, 2, none⟩ (.int .i64 0)).setCell ⟨w.heap.size + 1, 3, none⟩ (.int .i64 0)).setCell ⟨w.heap.size + 1, 4, none⟩ (.int .i64 0)).setCell ⟨w.heap.size + 1, 5, none⟩ (.bool false)).setCell ⟨w.heap.size + 1, 6, none⟩ (.int .i64 0)).setCell ⟨w.heap.size + 1, 7, none⟩ (.slice none 0 0)) := by
      repeat (refine Below.setCell ?_ (p := ⟨w.heap.size + 1, _, none⟩) (Nat.le_succ _) _)
      exact S1.bel
    obtain ⟨o0, o1, o2, o3, o4, o5, o6, o7⟩ :  w1.cell? ⟨w.heap.size, 0, none⟩ = some (.slice a1 h.words.length c1) ∧ w1.cell? ⟨w.heap.size, 1, none⟩ = some (.slice a2 h.roots.length c2) ∧ w1.cell? ⟨w.heap.size, 2, none⟩ = some (.int .i64 h.old) ∧ w1.cell? ⟨w.heap.size, 3, none⟩ = some (.int .i64 h.eden) ∧ w1.cell? ⟨w.heap.size, 4, none⟩ = some (.int .i64 h.surv) ∧ w1.cell? ⟨w.heap.size, 5, none⟩ = some (.bool h.flip) ∧ w1.cell? ⟨w.heap.size, 6, none⟩ = some (.int .i64 h.hash) ∧ w1.cell? ⟨w.heap.size, 7, none⟩ = some (.slice a3 h.kept.length c3)  := ⟨S1.c0, S1.c1, S1.c2, S1.c3, S1.c4, S1.c5, S1.c6, S1.c7⟩
    clear K S1
    go_wp2_with (go_at_call 55; refine (wl1In_any _ _ _ _).mono ?_; rintro e wq ⟨rfl, hq⟩; obtain rfl := hq.symm; first | rw [DK] | rw [DN])
    exact bodyPost_ret (v := .tuple #[.agg #[.slice none 0 0, .slice none 0 0, .int .i64 0, .int .i64 0, .int .i64 0, .bool false, .int .i64 0, .slice none 0 0], .int .i64 0, .bool false]) (by simp [results, Tryz.results40, go_sem, r0, r1, r2, r3, r4, r5, r6, r7]) rfl ⟨⟨_, zero_ret3m AB (new_no AB) (new_w0 AB)⟩, B9⟩
  have DK := decide_eq_true hck
  by_cases hcn : 0 ≤ n ∧ n ≤ 60
  case neg =>
    have AB : newB h k n = false := by unfold newB; rw [hk, decide_eq_true hck, decide_eq_false hcn]; rfl
    have DN := decide_eq_false hcn
    clear ok1
    obtain ⟨fk, K⟩ := S1.res
    have fR := fun i => K.frozen i
    have r0 := K.cell (i := 0) (by omega)
    have r1 := K.cell (i := 1) (by omega)
    have r2 := K.cell (i := 2) (by omega)
    have r3 := K.cell (i := 3) (by omega)
    have r4 := K.cell (i := 4) (by omega)
    have r5 := K.cell (i := 5) (by omega)
    have r6 := K.cell (i := 6) (by omega)
    have r7 := K.cell (i := 7) (by omega)
    have ltR := K.lt
    have B9 : Below w.heap.size w ((((((((w1.setCell ⟨w.heap.size + 1, 0, none⟩ (.slice none 0 0)).setCell ⟨w.heap.size + 1, 1, none⟩ (.slice none 0 0)).setCell ⟨w.heap.size + 1, 2, none⟩ (.int .i64 0)).setCell ⟨w.heap.size + 1, 3, none⟩ (.int .i64 0)).setCell ⟨w.heap.size + 1, 4, none⟩ (.int .i64 0)).setCell ⟨w.heap.size + 1, 5, none⟩ (.bool false)).setCell ⟨w.heap.size + 1, 6, none⟩ (.int .i64 0)).setCell ⟨w.heap.size + 1, 7, none⟩ (.slice none 0 0)) := by
      repeat (refine Below.setCell ?_ (p := ⟨w.heap.size + 1, _, none⟩) (Nat.le_succ _) _)
      exact S1.bel
    obtain ⟨o0, o1, o2, o3, o4, o5, o6, o7⟩ :  w1.cell? ⟨w.heap.size, 0, none⟩ = some (.slice a1 h.words.length c1) ∧ w1.cell? ⟨w.heap.size, 1, none⟩ = some (.slice a2 h.roots.length c2) ∧ w1.cell? ⟨w.heap.size, 2, none⟩ = some (.int .i64 h.old) ∧ w1.cell? ⟨w.heap.size, 3, none⟩ = some (.int .i64 h.eden) ∧ w1.cell? ⟨w.heap.size, 4, none⟩ = some (.int .i64 h.surv) ∧ w1.cell? ⟨w.heap.size, 5, none⟩ = some (.bool h.flip) ∧ w1.cell? ⟨w.heap.size, 6, none⟩ = some (.int .i64 h.hash) ∧ w1.cell? ⟨w.heap.size, 7, none⟩ = some (.slice a3 h.kept.length c3)  := ⟨S1.c0, S1.c1, S1.c2, S1.c3, S1.c4, S1.c5, S1.c6, S1.c7⟩
    clear K S1
    go_wp2_with (go_at_call 55; refine (wl1In_any _ _ _ _).mono ?_; rintro e wq ⟨rfl, hq⟩; obtain rfl := hq.symm; first | rw [DK] | rw [DN])
    exact bodyPost_ret (v := .tuple #[.agg #[.slice none 0 0, .slice none 0 0, .int .i64 0, .int .i64 0, .int .i64 0, .bool false, .int .i64 0, .slice none 0 0], .int .i64 0, .bool false]) (by simp [results, Tryz.results40, go_sem, r0, r1, r2, r3, r4, r5, r6, r7]) rfl ⟨⟨_, zero_ret3m AB (new_no AB) (new_w0 AB)⟩, B9⟩
  have DN := decide_eq_true hcn
  by_cases hch : h.hash = 1000000000
  · have AB : newB h k n = false := by unfold newB; rw [hk, decide_eq_true hck, decide_eq_true hcn, decide_eq_true hch]; rfl
    have tch : (h.hash == 1000000000) = true := by rw [hch]; rfl
    replace hch : Hid (h.hash = 1000000000) := hch
    clear ok1
    obtain ⟨fk, K⟩ := S1.res
    have fR := fun i => K.frozen i
    have r0 := K.cell (i := 0) (by omega)
    have r1 := K.cell (i := 1) (by omega)
    have r2 := K.cell (i := 2) (by omega)
    have r3 := K.cell (i := 3) (by omega)
    have r4 := K.cell (i := 4) (by omega)
    have r5 := K.cell (i := 5) (by omega)
    have r6 := K.cell (i := 6) (by omega)
    have r7 := K.cell (i := 7) (by omega)
    have ltR := K.lt
    have B9 : Below w.heap.size w ((((((((w1.setCell ⟨w.heap.size + 1, 0, none⟩ (.slice none 0 0)).setCell ⟨w.heap.size + 1, 1, none⟩ (.slice none 0 0)).setCell ⟨w.heap.size + 1, 2, none⟩ (.int .i64 0)).setCell ⟨w.heap.size + 1, 3, none⟩ (.int .i64 0)).setCell ⟨w.heap.size + 1, 4, none⟩ (.int .i64 0)).setCell ⟨w.heap.size + 1, 5, none⟩ (.bool false)).setCell ⟨w.heap.size + 1, 6, none⟩ (.int .i64 0)).setCell ⟨w.heap.size + 1, 7, none⟩ (.slice none 0 0)) := by
      repeat (refine Below.setCell ?_ (p := ⟨w.heap.size + 1, _, none⟩) (Nat.le_succ _) _)
      exact S1.bel
    obtain ⟨o0, o1, o2, o3, o4, o5, o6, o7⟩ :  w1.cell? ⟨w.heap.size, 0, none⟩ = some (.slice a1 h.words.length c1) ∧ w1.cell? ⟨w.heap.size, 1, none⟩ = some (.slice a2 h.roots.length c2) ∧ w1.cell? ⟨w.heap.size, 2, none⟩ = some (.int .i64 h.old) ∧ w1.cell? ⟨w.heap.size, 3, none⟩ = some (.int .i64 h.eden) ∧ w1.cell? ⟨w.heap.size, 4, none⟩ = some (.int .i64 h.surv) ∧ w1.cell? ⟨w.heap.size, 5, none⟩ = some (.bool h.flip) ∧ w1.cell? ⟨w.heap.size, 6, none⟩ = some (.int .i64 h.hash) ∧ w1.cell? ⟨w.heap.size, 7, none⟩ = some (.slice a3 h.kept.length c3)  := ⟨S1.c0, S1.c1, S1.c2, S1.c3, S1.c4, S1.c5, S1.c6, S1.c7⟩
    clear K S1
    go_wp2_with (go_at_call 55; refine (wl1In_any _ _ _ _).mono ?_; rintro e wq ⟨rfl, hq⟩; obtain rfl := hq.symm; first | rw [DK] | rw [DN])
    exact bodyPost_ret (v := .tuple #[.agg #[.slice none 0 0, .slice none 0 0, .int .i64 0, .int .i64 0, .int .i64 0, .bool false, .int .i64 0, .slice none 0 0], .int .i64 0, .bool false]) (by simp [results, Tryz.results40, go_sem, r0, r1, r2, r3, r4, r5, r6, r7]) rfl ⟨⟨_, zero_ret3m AB (new_no AB) (new_w0 AB)⟩, B9⟩
  have tch : (h.hash == 1000000000) = false := by rw [beq_eq_false_iff_ne]; exact hch
  by_cases hce : h.eden + 4 + n ≤ 2600
  case neg =>
    have AB : newB h k n = false := by unfold newB; rw [hk, decide_eq_true hck, decide_eq_true hcn, decide_eq_false hch, decide_eq_false hce]; rfl
    have tce : 2600 < h.eden + 4 + n := by omega
    clear ok1
    obtain ⟨fk, K⟩ := S1.res
    have fR := fun i => K.frozen i
    have r0 := K.cell (i := 0) (by omega)
    have r1 := K.cell (i := 1) (by omega)
    have r2 := K.cell (i := 2) (by omega)
    have r3 := K.cell (i := 3) (by omega)
    have r4 := K.cell (i := 4) (by omega)
    have r5 := K.cell (i := 5) (by omega)
    have r6 := K.cell (i := 6) (by omega)
    have r7 := K.cell (i := 7) (by omega)
    have ltR := K.lt
    have B9 : Below w.heap.size w ((((((((w1.setCell ⟨w.heap.size + 1, 0, none⟩ (.slice none 0 0)).setCell ⟨w.heap.size + 1, 1, none⟩ (.slice none 0 0)).setCell ⟨w.heap.size + 1, 2, none⟩ (.int .i64 0)).setCell ⟨w.heap.size + 1, 3, none⟩ (.int .i64 0)).setCell ⟨w.heap.size + 1, 4, none⟩ (.int .i64 0)).setCell ⟨w.heap.size + 1, 5, none⟩ (.bool false)).setCell ⟨w.heap.size + 1, 6, none⟩ (.int .i64 0)).setCell ⟨w.heap.size + 1, 7, none⟩ (.slice none 0 0)) := by
      repeat (refine Below.setCell ?_ (p := ⟨w.heap.size + 1, _, none⟩) (Nat.le_succ _) _)
      exact S1.bel
    obtain ⟨o0, o1, o2, o3, o4, o5, o6, o7⟩ :  w1.cell? ⟨w.heap.size, 0, none⟩ = some (.slice a1 h.words.length c1) ∧ w1.cell? ⟨w.heap.size, 1, none⟩ = some (.slice a2 h.roots.length c2) ∧ w1.cell? ⟨w.heap.size, 2, none⟩ = some (.int .i64 h.old) ∧ w1.cell? ⟨w.heap.size, 3, none⟩ = some (.int .i64 h.eden) ∧ w1.cell? ⟨w.heap.size, 4, none⟩ = some (.int .i64 h.surv) ∧ w1.cell? ⟨w.heap.size, 5, none⟩ = some (.bool h.flip) ∧ w1.cell? ⟨w.heap.size, 6, none⟩ = some (.int .i64 h.hash) ∧ w1.cell? ⟨w.heap.size, 7, none⟩ = some (.slice a3 h.kept.length c3)  := ⟨S1.c0, S1.c1, S1.c2, S1.c3, S1.c4, S1.c5, S1.c6, S1.c7⟩
    clear K S1
    go_wp2_with (go_at_call 55; refine (wl1In_any _ _ _ _).mono ?_; rintro e wq ⟨rfl, hq⟩; obtain rfl := hq.symm; first | rw [DK] | rw [DN])
    exact bodyPost_ret (v := .tuple #[.agg #[.slice none 0 0, .slice none 0 0, .int .i64 0, .int .i64 0, .int .i64 0, .bool false, .int .i64 0, .slice none 0 0], .int .i64 0, .bool false]) (by simp [results, Tryz.results40, go_sem, r0, r1, r2, r3, r4, r5, r6, r7]) rfl ⟨⟨_, zero_ret3m AB (new_no AB) (new_w0 AB)⟩, B9⟩
  have AB : newB h k n = true := by unfold newB; rw [hk, decide_eq_true hck, decide_eq_true hcn, decide_eq_false hch, decide_eq_true hce]; rfl
  have tce : ¬ 2600 < h.eden + 4 + n := by omega
  have CP := l5Copy_any _ h _ (hv.later S1.bel) hwo hro hke
  obtain ⟨o0, o1, o2, o3, o4, o5, o6, o7⟩ :  w1.cell? ⟨w.heap.size, 0, none⟩ = some (.slice a1 h.words.length c1) ∧ w1.cell? ⟨w.heap.size, 1, none⟩ = some (.slice a2 h.roots.length c2) ∧ w1.cell? ⟨w.heap.size, 2, none⟩ = some (.int .i64 h.old) ∧ w1.cell? ⟨w.heap.size, 3, none⟩ = some (.int .i64 h.eden) ∧ w1.cell? ⟨w.heap.size, 4, none⟩ = some (.int .i64 h.surv) ∧ w1.cell? ⟨w.heap.size, 5, none⟩ = some (.bool h.flip) ∧ w1.cell? ⟨w.heap.size, 6, none⟩ = some (.int .i64 h.hash) ∧ w1.cell? ⟨w.heap.size, 7, none⟩ = some (.slice a3 h.kept.length c3)  := ⟨S1.c0, S1.c1, S1.c2, S1.c3, S1.c4, S1.c5, S1.c6, S1.c7⟩
  replace ok1 : Hid (h.words.length = 3200) := ok1
  go_wp2_with (go_at_call 55; refine (wl1In_any _ _ _ _).mono ?_; rintro e wq ⟨rfl, hq⟩; obtain rfl := hq.symm; first | rw [DK] | rw [DN])
  refine CP.mono ?_
  rintro e w3 ⟨⟨g1, d1, g2, d2, g3, d3, rfl, ⟨q1, q2, q3⟩, ⟨l0, l1, l2⟩, ⟨m1, m2, m3⟩⟩, hb3⟩
  have S3 := S1.later hb3
  have lt2 := S1.lt
  have ltg1 := q1.lt
  have ltg2 := q2.lt
  have ltg3 := q3.lt
  obtain ⟨m, hm⟩ : ∃ m : Nat, h.eden = m := ⟨h.eden.toNat, by omega⟩
  have NW : newW' h k n = 2 * (m : Int) + 1 := by rw [new_w1 AB, hm]
  have pc0 := q1.cell (i := m) (by rw [ok1.out]; omega)
  have pc1 := q1.cell (i := m + 1) (by rw [ok1.out]; omega)
  have pc2 := q1.cell (i := m + 2) (by rw [ok1.out]; omega)
  have pf := fun j => q1.frozen j
  have i0 : (m : Int) < h.words.length := by rw [ok1.out]; omega
  have j0 : m < h.words.length := by rw [ok1.out]; omega
  have i1 : (m : Int) + 1 < h.words.length := by rw [ok1.out]; omega
  have j1 : m + 1 < h.words.length := by rw [ok1.out]; omega
  have i2 : (m : Int) + 2 < h.words.length := by rw [ok1.out]; omega
  have j2 : m + 2 < h.words.length := by rw [ok1.out]; omega
  have hmm : m ≤ 2600 := by omega
  generalize h.words.getD m 0 = y0 at *
  generalize h.words.getD (m + 1) 0 = y1 at *
  generalize h.words.getD (m + 2) 0 = y2 at *
  have al2 := bel_one (((w3.setCell ⟨g1, m, none⟩ (.int .i64 n)).setCell ⟨g1, m + 1, none⟩ (.int .i64 k)).setCell ⟨g1, m + 2, none⟩ (.int .i64 h.hash)) (.cells #[.slice (some ⟨g1, 0, none⟩) h.words.length d1, .slice (some ⟨g2, 0, none⟩) h.roots.length d2, .int .i64 h.old, .int .i64 ((m : Int) + 4 + n), .int .i64 h.surv, .bool h.flip, .int .i64 (h.hash + 1), .slice (some ⟨g3, 0, none⟩) h.kept.length d3] 28)
  obtain ⟨fk, K4⟩ := S3.res
  have K5 := ((K4.setOther (a := ⟨g1, m, none⟩) (by show w.heap.size + 1 ≠ g1; omega) (.int .i64 n)).setOther (a := ⟨g1, m + 1, none⟩) (by show w.heap.size + 1 ≠ g1; omega) (.int .i64 k)).setOther (a := ⟨g1, m + 2, none⟩) (by show w.heap.size + 1 ≠ g1; omega) (.int .i64 h.hash)
  have KX : ((((w3.setCell ⟨g1, m, none⟩ (.int .i64 n)).setCell ⟨g1, m + 1, none⟩ (.int .i64 k)).setCell ⟨g1, m + 2, none⟩ (.int .i64 h.hash)).alloc (.cells #[.slice (some ⟨g1, 0, none⟩) h.words.length d1, .slice (some ⟨g2, 0, none⟩) h.roots.length d2, .int .i64 h.old, .int .i64 ((m : Int) + 4 + n), .int .i64 h.surv, .bool h.flip, .int .i64 (h.hash + 1), .slice (some ⟨g3, 0, none⟩) h.kept.length d3] 28)).rowIs (w.heap.size + 1) 28 8 fk := K5.of_block (al2.block _ K5.lt)
  have bel4 : Below w.heap.size w ((((w3.setCell ⟨g1, m, none⟩ (.int .i64 n)).setCell ⟨g1, m + 1, none⟩ (.int .i64 k)).setCell ⟨g1, m + 2, none⟩ (.int .i64 h.hash)).alloc (.cells #[.slice (some ⟨g1, 0, none⟩) h.words.length d1, .slice (some ⟨g2, 0, none⟩) h.roots.length d2, .int .i64 h.old, .int .i64 ((m : Int) + 4 + n), .int .i64 h.surv, .bool h.flip, .int .i64 (h.hash + 1), .slice (some ⟨g3, 0, none⟩) h.kept.length d3] 28)) := (((S3.bel.setCell (p := ⟨g1, m, none⟩) (by show w.heap.size ≤ g1; omega) (.int .i64 n)).setCell (p := ⟨g1, m + 1, none⟩) (by show w.heap.size ≤ g1; omega) (.int .i64 k)).setCell (p := ⟨g1, m + 2, none⟩) (by show w.heap.size ≤ g1; omega) (.int .i64 h.hash)).trans (al2.mono (by have := S3.bel.size; simp; omega))
  have sz4 : ((((w3.setCell ⟨g1, m, none⟩ (.int .i64 n)).setCell ⟨g1, m + 1, none⟩ (.int .i64 k)).setCell ⟨g1, m + 2, none⟩ (.int .i64 h.hash)).alloc (.cells #[.slice (some ⟨g1, 0, none⟩) h.words.length d1, .slice (some ⟨g2, 0, none⟩) h.roots.length d2, .int .i64 h.old, .int .i64 ((m : Int) + 4 + n), .int .i64 h.surv, .bool h.flip, .int .i64 (h.hash + 1), .slice (some ⟨g3, 0, none⟩) h.kept.length d3] 28)).heap.size = w3.heap.size + 1 := by simp
  have M1 := (((q1.set m n).set (m + 1) k).set (m + 2) h.hash).later al2
  have M2 := (RI.setOther (RI.setOther (RI.setOther q2 (b := g1) (i := m) (by omega) (.int .i64 n)) (b := g1) (i := m + 1) (by omega) (.int .i64 k)) (b := g1) (i := m + 2) (by omega) (.int .i64 h.hash)).later al2
  have M3 := (RI.setOther (RI.setOther (RI.setOther q3 (b := g1) (i := m) (by omega) (.int .i64 n)) (b := g1) (i := m + 1) (by omega) (.int .i64 k)) (b := g1) (i := m + 2) (by omega) (.int .i64 h.hash)).later al2
  have x3 := S3.c3
  have x6 := S3.c6
  rw [hm] at x3
  have lw : w.heap.size + 1 < w3.heap.size := by omega
  have lw' : w.heap.size < w3.heap.size := by omega
  have nb : ¬ w.heap.size = g1 := by omega
  have nb' : ¬ g1 = w.heap.size := by omega
  have n1 : ¬ g1 = w3.heap.size := by omega
  have n1' : ¬ w3.heap.size = g1 := by omega
  have hHF : ∀ w9, w9.rowIs (w.heap.size + 1) 28 8 (fun i => (#[.slice (some ⟨g1, 0, none⟩) h.words.length d1, .slice (some ⟨g2, 0, none⟩) h.roots.length d2, .int .i64 h.old, .int .i64 ((m : Int) + 4 + n), .int .i64 h.surv, .bool h.flip, .int .i64 (h.hash + 1), .slice (some ⟨g3, 0, none⟩) h.kept.length d3] : Array Value)[i]?.getD undef) → ((((w3.setCell ⟨g1, m, none⟩ (.int .i64 n)).setCell ⟨g1, m + 1, none⟩ (.int .i64 k)).setCell ⟨g1, m + 2, none⟩ (.int .i64 h.hash)).alloc (.cells #[.slice (some ⟨g1, 0, none⟩) h.words.length d1, .slice (some ⟨g2, 0, none⟩) h.roots.length d2, .int .i64 h.old, .int .i64 ((m : Int) + 4 + n), .int .i64 h.surv, .bool h.flip, .int .i64 (h.hash + 1), .slice (some ⟨g3, 0, none⟩) h.kept.length d3] 28)).grownBy w9 (some (w.heap.size + 1)) → HM w.heap.size w9 (.agg #[.slice (some ⟨g1, 0, none⟩) h.words.length d1, .slice (some ⟨g2, 0, none⟩) h.roots.length d2, .int .i64 h.old, .int .i64 ((m : Int) + 4 + n), .int .i64 h.surv, .bool h.flip, .int .i64 (h.hash + 1), .slice (some ⟨g3, 0, none⟩) h.kept.length d3]) (newC h k n) ∧ Below w.heap.size w w9 := fun w9 K9 G9 => by
    refine ⟨?_, Below.grown bel4 G9 (by rw [sz4]; omega) (fun k hk => by cases hk; omega)⟩
    rw [new_yes AB]
    have q := HM.of_rows (h := newHp h k n) (B := w.heap.size) (g1 := g1) (c1 := d1) (w := w9) (by
      show RI _ g1 (((h.words.set h.eden.toNat n).set (h.eden.toNat + 1) k).set (h.eden.toNat + 2) h.hash) d1
      rw [hm]
      exact M1.grown G9 (by simp <;> omega)) (M2.grown G9 (by simp <;> omega)) (M3.grown G9 (by simp <;> omega)) m1 m2 m3 (by omega) (by omega) (by omega) (by omega) (by omega) (by omega)
    rw [show (newHp h k n).words.length = h.words.length from by simp [newHp], show (newHp h k n).eden = m + 4 + n from by simp [newHp, hm]] at q
    exact q
  have OKC : (#[.slice (some ⟨g1, 0, none⟩) h.words.length d1, .slice (some ⟨g2, 0, none⟩) h.roots.length d2, .int .i64 h.old, .int .i64 ((m : Int) + 4 + n), .int .i64 h.surv, .bool h.flip, .int .i64 (h.hash + 1), .slice (some ⟨g3, 0, none⟩) h.kept.length d3] : Array Value).all (·.oneCell') = true := by simp [Value.oneCell']
  replace hm : Hid (h.eden = m) := hm
  clear S1 S3 CP hb3 q1 q2 q3 al2 hv K4 K5 o0 o1 o2 o3 o4 o5 o6 o7 bel4 sz4 M1 M2 M3 tce hce ok2 ok3 ok6 l0 l1 l2 lt2 DK DN
  go_wp2_with ((with_reducible refine store_box _ ?_ (.tmp 6) (.tmp 69) 28 ?_ 28 (w.heap.size + 1) 8 #[.slice (some ⟨g1, 0, none⟩) h.words.length d1, .slice (some ⟨g2, 0, none⟩) h.roots.length d2, .int .i64 h.old, .int .i64 ((m : Int) + 4 + n), .int .i64 h.surv, .bool h.flip, .int .i64 (h.hash + 1), .slice (some ⟨g3, 0, none⟩) h.kept.length d3] fk ?_ ?_ KX ?_ ?_ OKC ?_); rfl; rfl; rfl; rfl; rfl; kernel_rfl; intro w9 K9 G9; have r0 : w9.cell? ⟨w.heap.size + 1, 0, none⟩ = some (.slice (some ⟨g1, 0, none⟩) h.words.length d1) := K9.cell (i := 0) (by omega); have r1 : w9.cell? ⟨w.heap.size + 1, 1, none⟩ = some (.slice (some ⟨g2, 0, none⟩) h.roots.length d2) := K9.cell (i := 1) (by omega); have r2 : w9.cell? ⟨w.heap.size + 1, 2, none⟩ = some (.int .i64 h.old) := K9.cell (i := 2) (by omega); have r3 : w9.cell? ⟨w.heap.size + 1, 3, none⟩ = some (.int .i64 ((m : Int) + 4 + n)) := K9.cell (i := 3) (by omega); have r4 : w9.cell? ⟨w.heap.size + 1, 4, none⟩ = some (.int .i64 h.surv) := K9.cell (i := 4) (by omega); have r5 : w9.cell? ⟨w.heap.size + 1, 5, none⟩ = some (.bool h.flip) := K9.cell (i := 5) (by omega); have r6 : w9.cell? ⟨w.heap.size + 1, 6, none⟩ = some (.int .i64 (h.hash + 1)) := K9.cell (i := 6) (by omega); have r7 : w9.cell? ⟨w.heap.size + 1, 7, none⟩ = some (.slice (some ⟨g3, 0, none⟩) h.kept.length d3) := K9.cell (i := 7) (by omega))
  obtain ⟨HF, B9⟩ := hHF w9 K9 G9
  exact bodyPost_ret (v := .tuple #[.agg #[.slice (some ⟨g1, 0, none⟩) h.words.length d1, .slice (some ⟨g2, 0, none⟩) h.roots.length d2, .int .i64 h.old, .int .i64 ((m : Int) + 4 + n), .int .i64 h.surv, .bool h.flip, .int .i64 (h.hash + 1), .slice (some ⟨g3, 0, none⟩) h.kept.length d3], .int .i64 (2 * (m : Int) + 1), .bool true]) (by simp [results, Tryz.results40, go_sem, r0, r1, r2, r3, r4, r5, r6, r7]) rfl ⟨⟨_, by rw [AB, NW], HF⟩, B9⟩

theorem specNew_c (v : Value) (h : Hp) (k n : Int) (w : World) (hv : HR w v h) (hwo : h.words.length ≤ 1000000000000) (hro : h.roots.length ≤ 1000000000000) (hke : h.kept.length ≤ 1000000000000) :
    Calls Tryz.prog 40 #[v, .int .i64 k, .int .i64 n] w fun e w' => (∃ u, e = .returned (.tuple #[u, .int .i64 (newW' h k n), .bool (newB h k n)]) ∧ HN w.heap.size w' u (newC h k n)) ∧ Below w.heap.size w w' :=
  (specNew_m v h k n w hv hwo hro hke).mono fun _ _ ⟨⟨u, e, k⟩, b⟩ => ⟨⟨u, e, k.hn⟩, b⟩

end Go.Proofs.YtgacacbncefeaaaGreat
