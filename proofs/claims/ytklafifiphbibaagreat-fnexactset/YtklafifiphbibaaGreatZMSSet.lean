/- SetRoot of the model. -/
import Derived.Test.YtklafifiphbibaaGreatZMSAdd
import Derived.Test.YtklafifiphbibaaGreatZMBox
import Derived.Test.YtklafifiphbibaaGreatZU2
namespace Go.Proofs.YtklafifiphbibaaGreat
open Go.RowKit

set_option maxRecDepth 100000 in
set_option maxHeartbeats 3200000 in
theorem specSetRoot_m (v : Value) (h : Hp) (i x : Int) (w : World) (hv : HR w v h) (hwo : h.words.length ≤ 1000000000000) (hro : h.roots.length ≤ 1000000000000) (hke : h.kept.length ≤ 1000000000000) (hx : In64 x) :
    Calls Tryz.prog 93 #[v, .int .i64 i, .int .i64 x] w fun e w' => (∃ u, e = .returned (.tuple #[u, .bool (setB h i x)]) ∧ HM w.heap.size w' u (setC h i x)) ∧ Below w.heap.size w w' := by
  obtain ⟨v1, v2, v3, rfl, i1, i2, i3⟩ := id hv
  obtain ⟨a1, c1, rfl, -⟩ := IRs i1
  obtain ⟨a2, c2, rfl, -⟩ := IRs i2
  obtain ⟨a3, c3, rfl, -⟩ := IRs i3
  have S0 := CS.new w (.slice a1 h.words.length c1) (.slice a2 h.roots.length c2) (.int .i64 h.old) (.int .i64 h.eden) (.int .i64 h.surv) (.bool h.flip) (.int .i64 h.hash) (.slice a3 h.kept.length c3)
  have C := specHeapOk_c _ h _ (hv.later S0.bel) hro hke
  clear i1 i2 i3
  go_enter Tryz.func93, Tryz.ntmps93
  go_wp2_with fail
  refine C.mono ?_
  rintro e w1 ⟨rfl, hb1⟩
  have S1 := S0.later hb1
  clear C S0 hb1
  cases hk : okC h
  · have AB : setB h i x = false := by unfold setB; rw [hk]; rfl
    obtain ⟨fk, K⟩ := S1.res
    have fR := fun i => K.frozen i
    have r0 := K.cell (i := 0) (by omega)
    have r1 := K.cell (i := 1) (by omega)
    have r2 := K.cell (i := 2) (by omega)
    have r3 := K.cell (i := 3) (by omega)
    have r4 := K.cell (i := 4) (by omega)
    have r5 := K.cell (i := 5) (by omega)
    have r6 := K.cell (i := 6) (by omega)
    have r7 := K.cell (i := 7) (by omega)
    have ltR := K.lt
    have B9 : Below w.heap.size w ((((((((w1.setCell ⟨w.heap.size + 1, 0, none⟩ (.slice none 0 0)).setCell ⟨w.heap.size + 1, 1, none⟩ (.slice none 0 0)).setCell ⟨w.heap.size + 1, 2, none⟩ (.int .i64 0)).setCell ⟨w.heap.size + 1, 3, none⟩ (.int .i64 0)).setCell ⟨w.heap.size + 1, 4, none⟩ (.int .i64 0)).setCell ⟨w.heap.size + 1, 5, none⟩ (.bool false)).setCell ⟨w.heap.size + 1, 6, none⟩ (.int .i64 0)).setCell ⟨w.heap.size + 1, 7, none⟩ (.slice none 0 0)) := by
      repeat (refine Below.setCell ?_ (p := ⟨w.heap.size + 1, _, none⟩) (Nat.le_succ _) _)
      exact S1.bel
    obtain ⟨o0, o1, o2, o3, o4, o5, o6, o7⟩ :  w1.cell? ⟨w.heap.size, 0, none⟩ = some (.slice a1 h.words.length c1) ∧ w1.cell? ⟨w.heap.size, 1, none⟩ = some (.slice a2 h.roots.length c2) ∧ w1.cell? ⟨w.heap.size, 2, none⟩ = some (.int .i64 h.old) ∧ w1.cell? ⟨w.heap.size, 3, none⟩ = some (.int .i64 h.eden) ∧ w1.cell? ⟨w.heap.size, 4, none⟩ = some (.int .i64 h.surv) ∧ w1.cell? ⟨w.heap.size, 5, none⟩ = some (.bool h.flip) ∧ w1.cell? ⟨w.heap.size, 6, none⟩ = some (.int .i64 h.hash) ∧ w1.cell? ⟨w.heap.size, 7, none⟩ = some (.slice a3 h.kept.length c3)  := ⟨S1.c0, S1.c1, S1.c2, S1.c3, S1.c4, S1.c5, S1.c6, S1.c7⟩
    clear K S1
    go_wp2
    exact bodyPost_ret (v := .tuple #[.agg #[.slice none 0 0, .slice none 0 0, .int .i64 0, .int .i64 0, .int .i64 0, .bool false, .int .i64 0, .slice none 0 0], .bool false]) (by simp [results, Tryz.results93, go_sem, r0, r1, r2, r3, r4, r5, r6, r7]) rfl ⟨⟨_, zero_retm AB (set_no AB)⟩, B9⟩
  have LW := l7Word_c _ h x _ (hv.later S1.bel) hk hx
  obtain ⟨o0, o1, o2, o3, o4, o5, o6, o7⟩ :  w1.cell? ⟨w.heap.size, 0, none⟩ = some (.slice a1 h.words.length c1) ∧ w1.cell? ⟨w.heap.size, 1, none⟩ = some (.slice a2 h.roots.length c2) ∧ w1.cell? ⟨w.heap.size, 2, none⟩ = some (.int .i64 h.old) ∧ w1.cell? ⟨w.heap.size, 3, none⟩ = some (.int .i64 h.eden) ∧ w1.cell? ⟨w.heap.size, 4, none⟩ = some (.int .i64 h.surv) ∧ w1.cell? ⟨w.heap.size, 5, none⟩ = some (.bool h.flip) ∧ w1.cell? ⟨w.heap.size, 6, none⟩ = some (.int .i64 h.hash) ∧ w1.cell? ⟨w.heap.size, 7, none⟩ = some (.slice a3 h.kept.length c3)  := ⟨S1.c0, S1.c1, S1.c2, S1.c3, S1.c4, S1.c5, S1.c6, S1.c7⟩
  go_wp2_with fail
  refine LW.mono ?_
  rintro e w2 ⟨rfl, hb2⟩
  have S2 := S1.later hb2
  clear S1 LW hb2 o0 o1 o2 o3 o4 o5 o6 o7
  have LI := fun W => wl1In_any i 0 ((h.roots.length : Int) - 1) W
  cases hft : fitB (obC h) x
  · have AB : setB h i x = false := by unfold setB; rw [hk, hft]; rfl
    obtain ⟨fk, K⟩ := S2.res
    have fR := fun i => K.frozen i
    have r0 := K.cell (i := 0) (by omega)
    have r1 := K.cell (i := 1) (by omega)
    have r2 := K.cell (i := 2) (by omega)
    have r3 := K.cell (i := 3) (by omega)
    have r4 := K.cell (i := 4) (by omega)
    have r5 := K.cell (i := 5) (by omega)
    have r6 := K.cell (i := 6) (by omega)
    have r7 := K.cell (i := 7) (by omega)
    have ltR := K.lt
    have B9 : Below w.heap.size w ((((((((w2.setCell ⟨w.heap.size + 1, 0, none⟩ (.slice none 0 0)).setCell ⟨w.heap.size + 1, 1, none⟩ (.slice none 0 0)).setCell ⟨w.heap.size + 1, 2, none⟩ (.int .i64 0)).setCell ⟨w.heap.size + 1, 3, none⟩ (.int .i64 0)).setCell ⟨w.heap.size + 1, 4, none⟩ (.int .i64 0)).setCell ⟨w.heap.size + 1, 5, none⟩ (.bool false)).setCell ⟨w.heap.size + 1, 6, none⟩ (.int .i64 0)).setCell ⟨w.heap.size + 1, 7, none⟩ (.slice none 0 0)) := by
      repeat (refine Below.setCell ?_ (p := ⟨w.heap.size + 1, _, none⟩) (Nat.le_succ _) _)
      exact S2.bel
    obtain ⟨o0, o1, o2, o3, o4, o5, o6, o7⟩ :  w2.cell? ⟨w.heap.size, 0, none⟩ = some (.slice a1 h.words.length c1) ∧ w2.cell? ⟨w.heap.size, 1, none⟩ = some (.slice a2 h.roots.length c2) ∧ w2.cell? ⟨w.heap.size, 2, none⟩ = some (.int .i64 h.old) ∧ w2.cell? ⟨w.heap.size, 3, none⟩ = some (.int .i64 h.eden) ∧ w2.cell? ⟨w.heap.size, 4, none⟩ = some (.int .i64 h.surv) ∧ w2.cell? ⟨w.heap.size, 5, none⟩ = some (.bool h.flip) ∧ w2.cell? ⟨w.heap.size, 6, none⟩ = some (.int .i64 h.hash) ∧ w2.cell? ⟨w.heap.size, 7, none⟩ = some (.slice a3 h.kept.length c3)  := ⟨S2.c0, S2.c1, S2.c2, S2.c3, S2.c4, S2.c5, S2.c6, S2.c7⟩
    clear K S2
    go_wp2
    exact bodyPost_ret (v := .tuple #[.agg #[.slice none 0 0, .slice none 0 0, .int .i64 0, .int .i64 0, .int .i64 0, .bool false, .int .i64 0, .slice none 0 0], .bool false]) (by simp [results, Tryz.results93, go_sem, r0, r1, r2, r3, r4, r5, r6, r7]) rfl ⟨⟨_, zero_retm AB (set_no AB)⟩, B9⟩
  by_cases hi : 0 ≤ i ∧ i ≤ (h.roots.length : Int) - 1
  case neg =>
    have AB : setB h i x = false := by unfold setB; rw [hk, hft, decide_eq_false (by omega)]; rfl
    rw [decide_eq_false hi] at LI
    obtain ⟨fk, K⟩ := S2.res
    have fR := fun i => K.frozen i
    have r0 := K.cell (i := 0) (by omega)
    have r1 := K.cell (i := 1) (by omega)
    have r2 := K.cell (i := 2) (by omega)
    have r3 := K.cell (i := 3) (by omega)
    have r4 := K.cell (i := 4) (by omega)
    have r5 := K.cell (i := 5) (by omega)
    have r6 := K.cell (i := 6) (by omega)
    have r7 := K.cell (i := 7) (by omega)
    have ltR := K.lt
    have B9 : Below w.heap.size w ((((((((w2.setCell ⟨w.heap.size + 1, 0, none⟩ (.slice none 0 0)).setCell ⟨w.heap.size + 1, 1, none⟩ (.slice none 0 0)).setCell ⟨w.heap.size + 1, 2, none⟩ (.int .i64 0)).setCell ⟨w.heap.size + 1, 3, none⟩ (.int .i64 0)).setCell ⟨w.heap.size + 1, 4, none⟩ (.int .i64 0)).setCell ⟨w.heap.size + 1, 5, none⟩ (.bool false)).setCell ⟨w.heap.size + 1, 6, none⟩ (.int .i64 0)).setCell ⟨w.heap.size + 1, 7, none⟩ (.slice none 0 0)) := by
      repeat (refine Below.setCell ?_ (p := ⟨w.heap.size + 1, _, none⟩) (Nat.le_succ _) _)
      exact S2.bel
    obtain ⟨o0, o1, o2, o3, o4, o5, o6, o7⟩ :  w2.cell? ⟨w.heap.size, 0, none⟩ = some (.slice a1 h.words.length c1) ∧ w2.cell? ⟨w.heap.size, 1, none⟩ = some (.slice a2 h.roots.length c2) ∧ w2.cell? ⟨w.heap.size, 2, none⟩ = some (.int .i64 h.old) ∧ w2.cell? ⟨w.heap.size, 3, none⟩ = some (.int .i64 h.eden) ∧ w2.cell? ⟨w.heap.size, 4, none⟩ = some (.int .i64 h.surv) ∧ w2.cell? ⟨w.heap.size, 5, none⟩ = some (.bool h.flip) ∧ w2.cell? ⟨w.heap.size, 6, none⟩ = some (.int .i64 h.hash) ∧ w2.cell? ⟨w.heap.size, 7, none⟩ = some (.slice a3 h.kept.length c3)  := ⟨S2.c0, S2.c1, S2.c2, S2.c3, S2.c4, S2.c5, S2.c6, S2.c7⟩
    clear K S2
    go_wp2_with (go_at_call 29; refine (LI _).mono ?_; rintro e wq ⟨rfl, hq⟩; obtain rfl := hq.symm)
    exact bodyPost_ret (v := .tuple #[.agg #[.slice none 0 0, .slice none 0 0, .int .i64 0, .int .i64 0, .int .i64 0, .bool false, .int .i64 0, .slice none 0 0], .bool false]) (by simp [results, Tryz.results93, go_sem, r0, r1, r2, r3, r4, r5, r6, r7]) rfl ⟨⟨_, zero_retm AB (set_no AB)⟩, B9⟩
  have AB : setB h i x = true := by unfold setB; rw [hk, hft, decide_eq_true ⟨by omega, by omega⟩]; rfl
  rw [decide_eq_true hi] at LI
  obtain ⟨k, rfl⟩ : ∃ k : Nat, i = k := ⟨i.toNat, by omega⟩
  have hkl : k < h.roots.length := by omega
  have CP := l5Copy_any _ h _ (hv.later S2.bel) hwo hro hke
  obtain ⟨o0, o1, o2, o3, o4, o5, o6, o7⟩ :  w2.cell? ⟨w.heap.size, 0, none⟩ = some (.slice a1 h.words.length c1) ∧ w2.cell? ⟨w.heap.size, 1, none⟩ = some (.slice a2 h.roots.length c2) ∧ w2.cell? ⟨w.heap.size, 2, none⟩ = some (.int .i64 h.old) ∧ w2.cell? ⟨w.heap.size, 3, none⟩ = some (.int .i64 h.eden) ∧ w2.cell? ⟨w.heap.size, 4, none⟩ = some (.int .i64 h.surv) ∧ w2.cell? ⟨w.heap.size, 5, none⟩ = some (.bool h.flip) ∧ w2.cell? ⟨w.heap.size, 6, none⟩ = some (.int .i64 h.hash) ∧ w2.cell? ⟨w.heap.size, 7, none⟩ = some (.slice a3 h.kept.length c3)  := ⟨S2.c0, S2.c1, S2.c2, S2.c3, S2.c4, S2.c5, S2.c6, S2.c7⟩
  clear hft hi
  go_wp2_with (go_at_call 29; refine (LI _).mono ?_; rintro e wq ⟨rfl, hq⟩; obtain rfl := hq.symm)
  refine CP.mono ?_
  rintro e w3 ⟨⟨g1, d1, g2, d2, g3, d3, rfl, ⟨q1, q2, q3⟩, ⟨l0, l1, l2⟩, ⟨m1, m2, m3⟩⟩, hb3⟩
  have al := bel_one w3 (.cells #[.slice (some ⟨g1, 0, none⟩) h.words.length d1, .slice (some ⟨g2, 0, none⟩) h.roots.length d2, .int .i64 h.old, .int .i64 h.eden, .int .i64 h.surv, .bool h.flip, .int .i64 h.hash, .slice (some ⟨g3, 0, none⟩) h.kept.length d3] 26)
  have S3 := S2.later hb3
  have lt2 := S2.lt
  have ltg1 := q1.lt
  have ltg2 := q2.lt
  have ltg3 := q3.lt
  have pc := q2.cell hkl
  have pf := fun j => q2.frozen j
  generalize h.roots.getD k 0 = y at *
  clear CP S2 hb3 o0 o1 o2 o3 o4 o5 o6 o7 hv LI
  have al2 := bel_one (w3.setCell ⟨g2, k, none⟩ (.int .i64 x)) (.cells #[.slice (some ⟨g1, 0, none⟩) h.words.length d1, .slice (some ⟨g2, 0, none⟩) h.roots.length d2, .int .i64 h.old, .int .i64 h.eden, .int .i64 h.surv, .bool h.flip, .int .i64 h.hash, .slice (some ⟨g3, 0, none⟩) h.kept.length d3] 26)
  obtain ⟨fk, K4⟩ := S3.res
  have K5 := K4.setOther (a := ⟨g2, k, none⟩) (by show w.heap.size + 1 ≠ g2; omega) (.int .i64 x)
  have KX : ((w3.setCell ⟨g2, k, none⟩ (.int .i64 x)).alloc (.cells #[.slice (some ⟨g1, 0, none⟩) h.words.length d1, .slice (some ⟨g2, 0, none⟩) h.roots.length d2, .int .i64 h.old, .int .i64 h.eden, .int .i64 h.surv, .bool h.flip, .int .i64 h.hash, .slice (some ⟨g3, 0, none⟩) h.kept.length d3] 26)).rowIs (w.heap.size + 1) 26 8 fk := K5.of_block (al2.block _ K5.lt)
  have bel4 : Below w.heap.size w ((w3.setCell ⟨g2, k, none⟩ (.int .i64 x)).alloc (.cells #[.slice (some ⟨g1, 0, none⟩) h.words.length d1, .slice (some ⟨g2, 0, none⟩) h.roots.length d2, .int .i64 h.old, .int .i64 h.eden, .int .i64 h.surv, .bool h.flip, .int .i64 h.hash, .slice (some ⟨g3, 0, none⟩) h.kept.length d3] 26)) := (S3.bel.setCell (p := ⟨g2, k, none⟩) (by show w.heap.size ≤ g2; omega) (.int .i64 x)).trans (al2.mono (by have := S3.bel.size; simp; omega))
  have sz4 : ((w3.setCell ⟨g2, k, none⟩ (.int .i64 x)).alloc (.cells #[.slice (some ⟨g1, 0, none⟩) h.words.length d1, .slice (some ⟨g2, 0, none⟩) h.roots.length d2, .int .i64 h.old, .int .i64 h.eden, .int .i64 h.surv, .bool h.flip, .int .i64 h.hash, .slice (some ⟨g3, 0, none⟩) h.kept.length d3] 26)).heap.size = w3.heap.size + 1 := by simp
  have M1 := (q1.setOther (b := g2) (i := k) (by omega) (.int .i64 x)).later al2
  have M2 := (q2.set k x).later al2
  have M3 := (q3.setOther (b := g2) (i := k) (by omega) (.int .i64 x)).later al2
  have lw : w.heap.size + 1 < w3.heap.size := by omega
  have n1 : ¬ g2 = w3.heap.size := by omega
  have n1' : ¬ w3.heap.size = g2 := by omega
  have OKC : (#[.slice (some ⟨g1, 0, none⟩) h.words.length d1, .slice (some ⟨g2, 0, none⟩) h.roots.length d2, .int .i64 h.old, .int .i64 h.eden, .int .i64 h.surv, .bool h.flip, .int .i64 h.hash, .slice (some ⟨g3, 0, none⟩) h.kept.length d3] : Array Value).all (·.oneCell') = true := by simp [Value.oneCell']
  clear al al2 K4 K5 S3 q1 q2 q3
  go_wp2_with (refine store_box _ rfl (.tmp 6) (.tmp 35) 26 rfl 26 (w.heap.size + 1) 8 #[.slice (some ⟨g1, 0, none⟩) h.words.length d1, .slice (some ⟨g2, 0, none⟩) h.roots.length d2, .int .i64 h.old, .int .i64 h.eden, .int .i64 h.surv, .bool h.flip, .int .i64 h.hash, .slice (some ⟨g3, 0, none⟩) h.kept.length d3] fk rfl rfl KX rfl (by kernel_rfl) OKC ?_; intro w9 K9 G9; have r0 : w9.cell? ⟨w.heap.size + 1, 0, none⟩ = some (.slice (some ⟨g1, 0, none⟩) h.words.length d1) := K9.cell (i := 0) (by omega); have r1 : w9.cell? ⟨w.heap.size + 1, 1, none⟩ = some (.slice (some ⟨g2, 0, none⟩) h.roots.length d2) := K9.cell (i := 1) (by omega); have r2 : w9.cell? ⟨w.heap.size + 1, 2, none⟩ = some (.int .i64 h.old) := K9.cell (i := 2) (by omega); have r3 : w9.cell? ⟨w.heap.size + 1, 3, none⟩ = some (.int .i64 h.eden) := K9.cell (i := 3) (by omega); have r4 : w9.cell? ⟨w.heap.size + 1, 4, none⟩ = some (.int .i64 h.surv) := K9.cell (i := 4) (by omega); have r5 : w9.cell? ⟨w.heap.size + 1, 5, none⟩ = some (.bool h.flip) := K9.cell (i := 5) (by omega); have r6 : w9.cell? ⟨w.heap.size + 1, 6, none⟩ = some (.int .i64 h.hash) := K9.cell (i := 6) (by omega); have r7 : w9.cell? ⟨w.heap.size + 1, 7, none⟩ = some (.slice (some ⟨g3, 0, none⟩) h.kept.length d3) := K9.cell (i := 7) (by omega))
  have B9 : Below w.heap.size w w9 := Below.grown bel4 G9 (by rw [sz4]; omega) (fun k hk => by cases hk; omega)
  have HF : HM w.heap.size w9 (.agg #[.slice (some ⟨g1, 0, none⟩) h.words.length d1, .slice (some ⟨g2, 0, none⟩) h.roots.length d2, .int .i64 h.old, .int .i64 h.eden, .int .i64 h.surv, .bool h.flip, .int .i64 h.hash, .slice (some ⟨g3, 0, none⟩) h.kept.length d3]) (setC h k x) := by
    rw [set_yes AB]
    have q := HM.of_rows (h := { h with roots := h.roots.set (k : Int).toNat x }) (B := w.heap.size) (M1.grown G9 (by simp <;> omega)) (M2.grown G9 (by simp <;> omega)) (M3.grown G9 (by simp <;> omega)) m1 m2 m3 (by omega) (by omega) (by omega) (by omega) (by omega) (by omega)
    rw [show ({ h with roots := h.roots.set (k : Int).toNat x } : Hp).roots.length = h.roots.length from by simp] at q
    exact q
  exact bodyPost_ret (v := .tuple #[.agg #[.slice (some ⟨g1, 0, none⟩) h.words.length d1, .slice (some ⟨g2, 0, none⟩) h.roots.length d2, .int .i64 h.old, .int .i64 h.eden, .int .i64 h.surv, .bool h.flip, .int .i64 h.hash, .slice (some ⟨g3, 0, none⟩) h.kept.length d3], .bool true]) (by simp [results, Tryz.results93, go_sem, r0, r1, r2, r3, r4, r5, r6, r7]) rfl ⟨⟨_, by rw [AB], HF⟩, B9⟩

theorem specSetRoot_c (v : Value) (h : Hp) (i x : Int) (w : World) (hv : HR w v h) (hwo : h.words.length ≤ 1000000000000) (hro : h.roots.length ≤ 1000000000000) (hke : h.kept.length ≤ 1000000000000) (hx : In64 x) :
    Calls Tryz.prog 93 #[v, .int .i64 i, .int .i64 x] w fun e w' => (∃ u, e = .returned (.tuple #[u, .bool (setB h i x)]) ∧ HN w.heap.size w' u (setC h i x)) ∧ Below w.heap.size w w' :=
  (specSetRoot_m v h i x w hv hwo hro hke hx).mono fun _ _ ⟨⟨u, e, k⟩, b⟩ => ⟨⟨u, e, k.hn⟩, b⟩

end Go.Proofs.YtklafifiphbibaaGreat
