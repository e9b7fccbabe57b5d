
import Derived.Test.YtklafifiphbibaaGreatZMSAdd
import Derived.Test.YtklafifiphbibaaGreatZV8
import Derived.Test.YtklafifiphbibaaGreatZV2
import Derived.Test.YtklafifiphbibaaGreatZHDraw
import Derived.Test.YtklafifiphbibaaGreatZCSpec
import Derived.Test.YtklafifiphbibaaGreatZMSNew
import Derived.Deep.DeepCutAuto
/- SetRoot of the model. -/
namespace Go.Proofs.YtklafifiphbibaaGreat
open Go.RowKit

set_option maxRecDepth 100000 in
set_option maxHeartbeats 3200000 in
theorem specSetRoot_m (v : Value) (h : Hp) (i x : Int) (w : World) (hv : HR w v h) (hwo : h.words.length ≤ 1000000000000) (hro : h.roots.length ≤ 1000000000000) (hke : h.kept.length ≤ 1000000000000) (hx : In64 x) :
    Calls Tryz.prog 93 #[v, .int .i64 i, .int .i64 x] w fun e w' => (∃ u, e = .returned (.tuple #[u, .bool (setB h i x)]) ∧ HM w.heap.size w' u (setC h i x)) ∧ Below w.heap.size w w' := by
  obtain ⟨v1, v2, v3, rfl, i1, i2, i3⟩ := id hv
  obtain ⟨a1, c1, rfl, -⟩ := IRs i1
  obtain ⟨a2, c2, rfl, -⟩ := IRs i2
  obtain ⟨a3, c3, rfl, -⟩ := IRs i3
  have S0 := CS.new w (.slice a1 h.words.length c1) (.slice a2 h.roots.length c2) (.int .i64 h.old) (.int .i64 h.eden) (.int .i64 h.surv) (.bool h.flip) (.int .i64 h.hash) (.slice a3 h.kept.length c3)
  have C := specHeapOk_c _ h _ (hv.later S0.bel) hro hke
  clear i1 i2 i3
  go_enter Tryz.func93, Tryz.ntmps93
  go_wp2_with fail
  refine C.mono ?_
  rintro e w1 ⟨rfl, hb1⟩
  have S1 := S0.later hb1
  clear C S0 hb1
  cases hk : okC h
  · have AB : setB h i x = false := by unfold setB; rw [hk]; rfl
    obtain ⟨fk, K⟩ := S1.res
    have fR := fun i => K.frozen i
    have r0 := K.cell (i := 0) (by omega)
    have r1 := K.cell (i := 1) (by omega)
    have r2 := K.cell (i := 2) (by omega)
    have r3 := K.cell (i := 3) (by omega)
    have r4 := K.cell (i := 4) (by omega)
    have r5 := K.cell (i := 5) (by omega)
    have r6 := K.cell (i := 6) (by omega)
    have r7 := K.cell (i := 7) (by omega)
    have ltR := K.lt
    have B9 : Below w.heap.size w ((((((((w1.setCell ⟨w.heap.size + 1, 0, none⟩ (.slice none 0 0)).setCell ⟨w.heap.size + 1, 1, none⟩ (.slice none 0 0)).setCell ⟨w.heap.size + 1, 2, none⟩ (.int .i64 0)).setCell ⟨w.heap.size + 1, 3, none⟩ (.int .i64 0)).setCell ⟨w.heap.size + 1, 4, none⟩ (.int .i64 0)).setCell ⟨w.heap.size + 1, 5, none⟩ (.bool false)).setCell ⟨w.heap.size + 1, 6, none⟩ (.int .i64 0)).setCell ⟨w.heap.size + 1, 7, none⟩ (.slice none 0 0)) := by
      repeat (refine Below.setCell ?_ (p := ⟨w.heap.size + 1, _, none⟩) (Nat.le_succ _) _)
      exact S1.bel
    obtain ⟨o0, o1, o2, o3, o4, o5, o6, o7⟩ :  w1.cell? ⟨w.heap.size, 0, none⟩ = some (.slice a1 h.words.length c1) ∧ w1.cell? ⟨w.heap.size, 1, none⟩ = some (.slice a2 h.roots.length c2) ∧ w1.cell? ⟨w.heap.size, 2, none⟩ = some (.int .i64 h.old) ∧ w1.cell? ⟨w.heap.size, 3, none⟩ = some (.int .i64 h.eden) ∧ w1.cell? ⟨w.heap.size, 4, none⟩ = some (.int .i64 h.surv) ∧ w1.cell? ⟨w.heap.size, 5, none⟩ = some (.bool h.flip) ∧ w1.cell? ⟨w.heap.size, 6, none⟩ = some (.int .i64 h.hash) ∧ w1.cell? ⟨w.heap.size, 7, none⟩ = some (.slice a3 h.kept.length c3)  := ⟨S1.c0, S1.c1, S1.c2, S1.c3, S1.c4, S1.c5, S1.c6, S1.c7⟩
    clear K S1
    go_wp2
    exact bodyPost_ret (v := .tuple #[.agg #[.slice none 0 0, .slice none 0 0, .int .i64 0, .int .i64 0, .int .i64 0, .bool false, .int .i64 0, .slice none 0 0], .bool false]) (by simp [results, Tryz.results93, go_sem, r0, r1, r2, r3, r4, r5, r6, r7]) rfl ⟨⟨_, zero_retm AB (set_no AB)⟩, B9⟩
  have LW := l7Word_c _ h x _ (hv.later S1.bel) hk hx
  obtain ⟨o0, o1, o2, o3, o4, o5, o6, o7⟩ :  w1.cell? ⟨w.heap.size, 0, none⟩ = some (.slice a1 h.words.length c1) ∧ w1.cell? ⟨w.heap.size, 1, none⟩ = some (.slice a2 h.roots.length c2) ∧ w1.cell? ⟨w.heap.size, 2, none⟩ = some (.int .i64 h.old) ∧ w1.cell? ⟨w.heap.size, 3, none⟩ = some (.int .i64 h.eden) ∧ w1.cell? ⟨w.heap.size, 4, none⟩ = some (.int .i64 h.surv) ∧ w1.cell? ⟨w.heap.size, 5, none⟩ = some (.bool h.flip) ∧ w1.cell? ⟨w.heap.size, 6, none⟩ = some (.int .i64 h.hash) ∧ w1.cell? ⟨w.heap.size, 7, none⟩ = some (.slice a3 h.kept.length c3)  := ⟨S1.c0, S1.c1, S1.c2, S1.c3, S1.c4, S1.c5, S1.c6, S1.c7⟩
  go_wp2_with fail
  refine LW.mono ?_
  rintro e w2 ⟨rfl, hb2⟩
  have S2 := S1.later hb2
  clear S1 LW hb2 o0 o1 o2 o3 o4 o5 o6 o7
  have LI := fun W => wl1In_any i 0 ((h.roots.length : Int) - 1) W
  cases hft : fitB (obC h) x
  · have AB : setB h i x = false := by unfold setB; rw [hk, hft]; rfl
    obtain ⟨fk, K⟩ := S2.res
    have fR := fun i => K.frozen i
    have r0 := K.cell (i := 0) (by omega)
    have r1 := K.cell (i := 1) (by omega)
    have r2 := K.cell (i := 2) (by omega)
    have r3 := K.cell (i := 3) (by omega)
    have r4 := K.cell (i := 4) (by omega)
    have r5 := K.cell (i := 5) (by omega)
    have r6 := K.cell (i := 6) (by omega)
    have r7 := K.cell (i := 7) (by omega)
    have ltR := K.lt
    have B9 : Below w.heap.size w ((((((((w2.setCell ⟨w.heap.size + 1, 0, none⟩ (.slice none 0 0)).setCell ⟨w.heap.size + 1, 1, none⟩ (.slice none 0 0)).setCell ⟨w.heap.size + 1, 2, none⟩ (.int .i64 0)).setCell ⟨w.heap.size + 1, 3, none⟩ (.int .i64 0)).setCell ⟨w.heap.size + 1, 4, none⟩ (.int .i64 0)).setCell ⟨w.heap.size + 1, 5, none⟩ (.bool false)).setCell ⟨w.heap.size + 1, 6, none⟩ (.int .i64 0)).setCell ⟨w.heap.size + 1, 7, none⟩ (.slice none 0 0)) := by
      repeat (refine Below.setCell ?_ (p := ⟨w.heap.size + 1, _, none⟩) (Nat.le_succ _) _)
      exact S2.bel
    obtain ⟨o0, o1, o2, o3, o4, o5, o6, o7⟩ :  w2.cell? ⟨w.heap.size, 0, none⟩ = some (.slice a1 h.words.length c1) ∧ w2.cell? ⟨w.heap.size, 1, none⟩ = some (.slice a2 h.roots.length c2) ∧ w2.cell? ⟨w.heap.size, 2, none⟩ = some (.int .i64 h.old) ∧ w2.cell? ⟨w.heap.size, 3, none⟩ = some (.int .i64 h.eden) ∧ w2.cell? ⟨w.heap.size, 4, none⟩ = some (.int .i64 h.surv) ∧ w2.cell? ⟨w.heap.size, 5, none⟩ = some (.bool h.flip) ∧ w2.cell? ⟨w.heap.size, 6, none⟩ = some (.int .i64 h.hash) ∧ w2.cell? ⟨w.heap.size, 7, none⟩ = some (.slice a3 h.kept.length c3)  := ⟨S2.c0, S2.c1, S2.c2, S2.c3, S2.c4, S2.c5, S2.c6, S2.c7⟩
    clear K S2
    go_wp2
    exact bodyPost_ret (v := .tuple #[.agg #[.slice none 0 0, .slice none 0 0, .int .i64 0, .int .i64 0, .int .i64 0, .bool false, .int .i64 0, .slice none 0 0], .bool false]) (by simp [results, Tryz.results93, go_sem, r0, r1, r2, r3, r4, r5, r6, r7]) rfl ⟨⟨_, zero_retm AB (set_no AB)⟩, B9⟩
  by_cases hi : 0 ≤ i ∧ i ≤ (h.roots.length : Int) - 1
  case neg =>
    have AB : setB h i x = false := by unfold setB; rw [hk, hft, decide_eq_false (by omega)]; rfl
    rw [decide_eq_false hi] at LI
    obtain ⟨fk, K⟩ := S2.res
    have fR := fun i => K.frozen i
    have r0 := K.cell (i := 0) (by omega)
    have r1 := K.cell (i := 1) (by omega)
    have r2 := K.cell (i := 2) (by omega)
    have r3 := K.cell (i := 3) (by omega)
    have r4 := K.cell (i := 4) (by omega)
    have r5 := K.cell (i := 5) (by omega)
    have r6 := K.cell (i := 6) (by omega)
    have r7 := K.cell (i := 7) (by omega)
    have ltR := K.lt
    have B9 : Below w.heap.size w ((((((((w2.setCell ⟨w.heap.size + 1, 0, none⟩ (.slice none 0 0)).setCell ⟨w.heap.size + 1, 1, none⟩ (.slice none 0 0)).setCell ⟨w.heap.size + 1, 2, none⟩ (.int .i64 0)).setCell ⟨w.heap.size + 1, 3, none⟩ (.int .i64 0)).setCell ⟨w.heap.size + 1, 4, none⟩ (.int .i64 0)).setCell ⟨w.heap.size + 1, 5, none⟩ (.bool false)).setCell ⟨w.heap.size + 1, 6, none⟩ (.int .i64 0)).setCell ⟨w.heap.size + 1, 7, none⟩ (.slice none 0 0)) := by
      repeat (refine Below.setCell ?_ (p := ⟨w.heap.size + 1, _, none⟩) (Nat.le_succ _) _)
      exact S2.bel
    obtain ⟨o0, o1, o2, o3, o4, o5, o6, o7⟩ :  w2.cell? ⟨w.heap.size, 0, none⟩ = some (.slice a1 h.words.length c1) ∧ w2.cell? ⟨w.heap.size, 1, none⟩ = some (.slice a2 h.roots.length c2) ∧ w2.cell? ⟨w.heap.size, 2, none⟩ = some (.int .i64 h.old) ∧ w2.cell? ⟨w.heap.size, 3, none⟩ = some (.int .i64 h.eden) ∧ w2.cell? ⟨w.heap.size, 4, none⟩ = some (.int .i64 h.surv) ∧ w2.cell? ⟨w.heap.size, 5, none⟩ = some (.bool h.flip) ∧ w2.cell? ⟨w.heap.size, 6, none⟩ = some (.int .i64 h.hash) ∧ w2.cell? ⟨w.heap.size, 7, none⟩ = some (.slice a3 h.kept.length c3)  := ⟨S2.c0, S2.c1, S2.c2, S2.c3, S2.c4, S2.c5, S2.c6, S2.c7⟩
    clear K S2
    go_wp2_with (go_at_call 29; refine (LI _).mono ?_; rintro e wq ⟨rfl, hq⟩; obtain rfl := hq.symm)
    exact bodyPost_ret (v := .tuple #[.agg #[.slice none 0 0, .slice none 0 0, .int .i64 0, .int .i64 0, .int .i64 0, .bool false, .int .i64 0, .slice none 0 0], .bool false]) (by simp [results, Tryz.results93, go_sem, r0, r1, r2, r3, r4, r5, r6, r7]) rfl ⟨⟨_, zero_retm AB (set_no AB)⟩, B9⟩
  have AB : setB h i x = true := by unfold setB; rw [hk, hft, decide_eq_true ⟨by omega, by omega⟩]; rfl
  rw [decide_eq_true hi] at LI
  obtain ⟨k, rfl⟩ : ∃ k : Nat, i = k := ⟨i.toNat, by omega⟩
  have hkl : k < h.roots.length := by omega
  have CP := l5Copy_any _ h _ (hv.later S2.bel) hwo hro hke
  obtain ⟨o0, o1, o2, o3, o4, o5, o6, o7⟩ :  w2.cell? ⟨w.heap.size, 0, none⟩ = some (.slice a1 h.words.length c1) ∧ w2.cell? ⟨w.heap.size, 1, none⟩ = some (.slice a2 h.roots.length c2) ∧ w2.cell? ⟨w.heap.size, 2, none⟩ = some (.int .i64 h.old) ∧ w2.cell? ⟨w.heap.size, 3, none⟩ = some (.int .i64 h.eden) ∧ w2.cell? ⟨w.heap.size, 4, none⟩ = some (.int .i64 h.surv) ∧ w2.cell? ⟨w.heap.size, 5, none⟩ = some (.bool h.flip) ∧ w2.cell? ⟨w.heap.size, 6, none⟩ = some (.int .i64 h.hash) ∧ w2.cell? ⟨w.heap.size, 7, none⟩ = some (.slice a3 h.kept.length c3)  := ⟨S2.c0, S2.c1, S2.c2, S2.c3, S2.c4, S2.c5, S2.c6, S2.c7⟩
  clear hft hi
  go_wp2_with (go_at_call 29; refine (LI _).mono ?_; rintro e wq ⟨rfl, hq⟩; obtain rfl := hq.symm)
  refine CP.mono ?_
  rintro e w3 ⟨⟨g1, d1, g2, d2, g3, d3, rfl, ⟨q1, q2, q3⟩, ⟨l0, l1, l2⟩, ⟨m1, m2, m3⟩⟩, hb3⟩
  have al := bel_one w3 (.cells #[.slice (some ⟨g1, 0, none⟩) h.words.length d1, .slice (some ⟨g2, 0, none⟩) h.roots.length d2, .int .i64 h.old, .int .i64 h.eden, .int .i64 h.surv, .bool h.flip, .int .i64 h.hash, .slice (some ⟨g3, 0, none⟩) h.kept.length d3] 26)
  have S3 := S2.later hb3
  have lt2 := S2.lt
  have ltg1 := q1.lt
  have ltg2 := q2.lt
  have ltg3 := q3.lt
  have pc := q2.cell hkl
  have pf := fun j => q2.frozen j
  generalize h.roots.getD k 0 = y at *
  clear CP S2 hb3 o0 o1 o2 o3 o4 o5 o6 o7 hv LI
  have al2 := bel_one (w3.setCell ⟨g2, k, none⟩ (.int .i64 x)) (.cells #[.slice (some ⟨g1, 0, none⟩) h.words.length d1, .slice (some ⟨g2, 0, none⟩) h.roots.length d2, .int .i64 h.old, .int .i64 h.eden, .int .i64 h.surv, .bool h.flip, .int .i64 h.hash, .slice (some ⟨g3, 0, none⟩) h.kept.length d3] 26)
  obtain ⟨fk, K4⟩ := S3.res
  have K5 := K4.setOther (a := ⟨g2, k, none⟩) (by show w.heap.size + 1 ≠ g2; omega) (.int .i64 x)
  have KX : ((w3.setCell ⟨g2, k, none⟩ (.int .i64 x)).alloc (.cells #[.slice (some ⟨g1, 0, none⟩) h.words.length d1, .slice (some ⟨g2, 0, none⟩) h.roots.length d2, .int .i64 h.old, .int .i64 h.eden, .int .i64 h.surv, .bool h.flip, .int .i64 h.hash, .slice (some ⟨g3, 0, none⟩) h.kept.length d3] 26)).rowIs (w.heap.size + 1) 26 8 fk := K5.of_block (al2.block _ K5.lt)
  have bel4 : Below w.heap.size w ((w3.setCell ⟨g2, k, none⟩ (.int .i64 x)).alloc (.cells #[.slice (some ⟨g1, 0, none⟩) h.words.length d1, .slice (some ⟨g2, 0, none⟩) h.roots.length d2, .int .i64 h.old, .int .i64 h.eden, .int .i64 h.surv, .bool h.flip, .int .i64 h.hash, .slice (some ⟨g3, 0, none⟩) h.kept.length d3] 26)) := (S3.bel.setCell (p := ⟨g2, k, none⟩) (by show w.heap.size ≤ g2; omega) (.int .i64 x)).trans (al2.mono (by have := S3.bel.size; simp; omega))
  have sz4 : ((w3.setCell ⟨g2, k, none⟩ (.int .i64 x)).alloc (.cells #[.slice (some ⟨g1, 0, none⟩) h.words.length d1, .slice (some ⟨g2, 0, none⟩) h.roots.length d2, .int .i64 h.old, .int .i64 h.eden, .int .i64 h.surv, .bool h.flip, .int .i64 h.hash, .slice (some ⟨g3, 0, none⟩) h.kept.length d3] 26)).heap.size = w3.heap.size + 1 := by simp
  have M1 := (q1.setOther (b := g2) (i := k) (by omega) (.int .i64 x)).later al2
  have M2 := (q2.set k x).later al2
  have M3 := (q3.setOther (b := g2) (i := k) (by omega) (.int .i64 x)).later al2
  have lw : w.heap.size + 1 < w3.heap.size := by omega
  have n1 : ¬ g2 = w3.heap.size := by omega
  have n1' : ¬ w3.heap.size = g2 := by omega
  have OKC : (#[.slice (some ⟨g1, 0, none⟩) h.words.length d1, .slice (some ⟨g2, 0, none⟩) h.roots.length d2, .int .i64 h.old, .int .i64 h.eden, .int .i64 h.surv, .bool h.flip, .int .i64 h.hash, .slice (some ⟨g3, 0, none⟩) h.kept.length d3] : Array Value).all (·.oneCell') = true := by simp [Value.oneCell']
  clear al al2 K4 K5 S3 q1 q2 q3
  go_wp2_with (refine store_box _ rfl (.tmp 6) (.tmp 35) 26 rfl 26 (w.heap.size + 1) 8 #[.slice (some ⟨g1, 0, none⟩) h.words.length d1, .slice (some ⟨g2, 0, none⟩) h.roots.length d2, .int .i64 h.old, .int .i64 h.eden, .int .i64 h.surv, .bool h.flip, .int .i64 h.hash, .slice (some ⟨g3, 0, none⟩) h.kept.length d3] fk rfl rfl KX rfl (by kernel_rfl) OKC ?_; intro w9 K9 G9; have r0 : w9.cell? ⟨w.heap.size + 1, 0, none⟩ = some (.slice (some ⟨g1, 0, none⟩) h.words.length d1) := K9.cell (i := 0) (by omega); have r1 : w9.cell? ⟨w.heap.size + 1, 1, none⟩ = some (.slice (some ⟨g2, 0, none⟩) h.roots.length d2) := K9.cell (i := 1) (by omega); have r2 : w9.cell? ⟨w.heap.size + 1, 2, none⟩ = some (.int .i64 h.old) := K9.cell (i := 2) (by omega); have r3 : w9.cell? ⟨w.heap.size + 1, 3, none⟩ = some (.int .i64 h.eden) := K9.cell (i := 3) (by omega); have r4 : w9.cell? ⟨w.heap.size + 1, 4, none⟩ = some (.int .i64 h.surv) := K9.cell (i := 4) (by omega); have r5 : w9.cell? ⟨w.heap.size + 1, 5, none⟩ = some (.bool h.flip) := K9.cell (i := 5) (by omega); have r6 : w9.cell? ⟨w.heap.size + 1, 6, none⟩ = some (.int .i64 h.hash) := K9.cell (i := 6) (by omega); have r7 : w9.cell? ⟨w.heap.size + 1, 7, none⟩ = some (.slice (some ⟨g3, 0, none⟩) h.kept.length d3) := K9.cell (i := 7) (by omega))
  have B9 : Below w.heap.size w w9 := Below.grown bel4 G9 (by rw [sz4]; omega) (fun k hk => by cases hk; omega)
  have HF : HM w.heap.size w9 (.agg #[.slice (some ⟨g1, 0, none⟩) h.words.length d1, .slice (some ⟨g2, 0, none⟩) h.roots.length d2, .int .i64 h.old, .int .i64 h.eden, .int .i64 h.surv, .bool h.flip, .int .i64 h.hash, .slice (some ⟨g3, 0, none⟩) h.kept.length d3]) (setC h k x) := by
    rw [set_yes AB]
    have q := HM.of_rows (h := { h with roots := h.roots.set (k : Int).toNat x }) (B := w.heap.size) (M1.grown G9 (by simp <;> omega)) (M2.grown G9 (by simp <;> omega)) (M3.grown G9 (by simp <;> omega)) m1 m2 m3 (by omega) (by omega) (by omega) (by omega) (by omega) (by omega)
    rw [show ({ h with roots := h.roots.set (k : Int).toNat x } : Hp).roots.length = h.roots.length from by simp] at q
    exact q
  exact bodyPost_ret (v := .tuple #[.agg #[.slice (some ⟨g1, 0, none⟩) h.words.length d1, .slice (some ⟨g2, 0, none⟩) h.roots.length d2, .int .i64 h.old, .int .i64 h.eden, .int .i64 h.surv, .bool h.flip, .int .i64 h.hash, .slice (some ⟨g3, 0, none⟩) h.kept.length d3], .bool true]) (by simp [results, Tryz.results93, go_sem, r0, r1, r2, r3, r4, r5, r6, r7]) rfl ⟨⟨_, by rw [AB], HF⟩, B9⟩

end Go.Proofs.YtklafifiphbibaaGreat

/- A heap being drawn: what is known on the way. -/
namespace Go.Proofs.YtklafifiphbibaaGreat
open Go.RowKit

/-- A heap with lists that are short. -/
def Sm (t : Hp) : Prop := t.words.length ≤ 3200 ∧ t.roots.length ≤ 20 ∧ t.kept.length ≤ 3200
theorem HM.off {B N : Nat} {w w' : World} {v : Value} {h : Hp} (k : HM B w v h) (hg : w.grownBy w' (some N)) (hN : N < B) : HM B w' v h :=
  k.keep (fun b hb hl => hg.block b hl (fun e => by injection e; omega))
theorem own_apart {w : World} {B e size n b m : Nat} {t : TypeId} {v : Value} {xs : List Value} {f : Nat → Value} (h : w.ownsRow B e size v n xs) (ht : e ≠ t) (hr : w.rowIs b t m f) : v.ownBlock ≠ some b := by
  intro q
  rcases h.2 with ⟨rfl, _⟩ | ⟨g, cap, cur, rfl, _, hh, _⟩
  · cases q
  · obtain rfl : g = b := Option.some.inj q
    obtain ⟨c, hc, _⟩ := hr
    rw [hh] at hc
    simp at hc
    exact ht hc.2
theorem own_box {w w' : World} {B n b m : Nat} {v : Value} {xs : List Value} {f : Nat → Value} (h : w.ownsRow B 2 1 v n xs) (hr : w.rowIs b 26 m f) (hg : w.grownBy w' (some b)) : w'.ownsRow B 2 1 v n xs := by
  have ne := own_apart h (by decide) hr
  have hlt := h.lt
  obtain ⟨hl, h⟩ := h
  refine ⟨hl, ?_⟩
  rcases h with h | ⟨g, cap, cur, rfl, hB, hh, h1⟩
  · exact .inl h
  · exact .inr ⟨g, cap, cur, rfl, hB, (hg.block g (hlt g rfl).2 (fun e => ne e)).trans hh, h1⟩
/-- A heap's box is written: its rows stay. -/
theorem HM.box {B b m : Nat} {w w' : World} {v : Value} {h : Hp} {f : Nat → Value} (k : HM B w v h) (hr : w.rowIs b 26 m f) (hg : w.grownBy w' (some b)) : HM B w' v h := by
  obtain ⟨v1, v2, v3, e, ⟨o1, o2, o3⟩, d1, d2⟩ := k.ex
  exact ⟨v1, v2, v3, e, ⟨own_box o1 hr hg, own_box o2 hr hg, own_box o3 hr hg⟩, d1, d2⟩
theorem HM.shape {B : Nat} {w : World} {v : Value} {h : Hp} (k : HM B w v h) : ∃ p1 p2 p3 e1 e2 e3, v = .agg #[.slice p1 h.words.length e1, .slice p2 h.roots.length e2, .int .i64 h.old, .int .i64 h.eden, .int .i64 h.surv, .bool h.flip, .int .i64 h.hash, .slice p3 h.kept.length e3] := by
  obtain ⟨v1, v2, v3, rfl, ⟨o1, o2, o3⟩, -, -⟩ := k.ex
  obtain ⟨p1, e1, rfl, -⟩ := IRs (IR_of_owns o1)
  obtain ⟨p2, e2, rfl, -⟩ := IRs (IR_of_owns o2)
  obtain ⟨p3, e3, rfl, -⟩ := IRs (IR_of_owns o3)
  exact ⟨p1, p2, p3, e1, e2, e3, rfl⟩
theorem Dw.drew {N : Nat} {cv : Value} {cs : List UInt8} {w : World} (h : Dw N cv cs w) : Dw N cv cs w.drew := ⟨h.br.later (Below.refl _ _).drew, h.len, h.dr.drew, h.off⟩
/-- The draw goes on, and new blocks come. -/
theorem Dw.more {N : Nat} {cv : Value} {cs : List UInt8} {w w' : World} (h : Dw N cv cs w) (hb : Below w.heap.size w w') (hN : N < w.heap.size) : Dw N cv cs w' :=
  ⟨h.br.later hb, h.len, h.dr.grown (row := none) ⟨hb.os, hb.tape, hb.output, hb.size, fun k hk _ => hb.block k hk⟩ (by simp) hN, h.off⟩

end Go.Proofs.YtklafifiphbibaaGreat

/- The draw of a heap, under way: its state. -/
namespace Go.Proofs.YtklafifiphbibaaGreat
open Go.RowKit

def hv8 (t : Hp) (p1 p2 p3 : Option Addr) (e1 e2 e3 : Nat) : Array Value := #[.slice p1 t.words.length e1, .slice p2 t.roots.length e2, .int .i64 t.old, .int .i64 t.eden, .int .i64 t.surv, .bool t.flip, .int .i64 t.hash, .slice p3 t.kept.length e3]
theorem hv8_cells {W : World} {b : Nat} {t : Hp} {p1 p2 p3 : Option Addr} {e1 e2 e3 : Nat} (k : W.rowIs b 26 8 (fun i => (hv8 t p1 p2 p3 e1 e2 e3)[i]?.getD undef)) :
    W.cell? ⟨b, 0, none⟩ = some (.slice p1 t.words.length e1) ∧ W.cell? ⟨b, 1, none⟩ = some (.slice p2 t.roots.length e2) ∧ W.cell? ⟨b, 2, none⟩ = some (.int .i64 t.old) ∧ W.cell? ⟨b, 3, none⟩ = some (.int .i64 t.eden) ∧ W.cell? ⟨b, 4, none⟩ = some (.int .i64 t.surv) ∧ W.cell? ⟨b, 5, none⟩ = some (.bool t.flip) ∧ W.cell? ⟨b, 6, none⟩ = some (.int .i64 t.hash) ∧ W.cell? ⟨b, 7, none⟩ = some (.slice p3 t.kept.length e3) :=
  ⟨k.cell (i := 0) (by omega), k.cell (i := 1) (by omega), k.cell (i := 2) (by omega), k.cell (i := 3) (by omega), k.cell (i := 4) (by omega), k.cell (i := 5) (by omega), k.cell (i := 6) (by omega), k.cell (i := 7) (by omega)⟩
/-- The block N alone is written, and the draw goes on. -/
def Sx (W : World) (N : Nat) (cv : Value) (cs : List UInt8) (w' : World) : Prop := W.grownBy w' (some N) ∧ Dw N cv cs w'
theorem Sx.refl {W : World} {N : Nat} {cv : Value} {cs : List UInt8} (d : Dw N cv cs W) : Sx W N cv cs W := ⟨World.grownBy.refl _ _, d⟩
theorem Sx.drew {W W' : World} {N : Nat} {cv : Value} {cs : List UInt8} (s : Sx W N cv cs W') : Sx W N cv cs W'.drew := ⟨gdrew s.1, s.2.drew⟩
theorem Sx.trans {W W1 W2 : World} {N : Nat} {cv : Value} {cs : List UInt8} (s : Sx W N cv cs W1) (k : Sx W1 N cv cs W2) : Sx W N cv cs W2 := ⟨gtrans s.1 k.1, k.2⟩
theorem Sx.more {W W1 W2 : World} {N : Nat} {cv : Value} {cs : List UInt8} (s : Sx W N cv cs W1) (hb : Below W1.heap.size W1 W2) (hN : N < W.heap.size) : Sx W N cv cs W2 :=
  ⟨gtrans s.1 ⟨hb.os, hb.tape, hb.output, hb.size, fun b hl _ => hb.block b hl⟩, s.2.more hb (Nat.lt_of_lt_of_le hN s.1.size)⟩
/-- A block that is new is written. -/
theorem Sx.put {W W1 W2 : World} {N b : Nat} {cv : Value} {cs : List UInt8} (d : Dw N cv cs W) (s : Sx W N cv cs W1) (g : W1.grownBy W2 (some b)) (hb : W.heap.size ≤ b) (hN : N < W.heap.size) : Sx W N cv cs W2 := by
  have q : W.grownBy W2 (some N) := gmix s.1 g (fun k e => by injection e; omega)
  exact ⟨q, Dw.grown d q s.2 g (fun e => by injection e; omega) (Nat.lt_of_lt_of_le hN s.1.size)⟩
/-- A heap being drawn: its box H, the words' row gQ. -/
structure LD (w : World) (N : Nat) (cv : Value) (cs : List UInt8) (H gQ : Nat) (W : World) (t : Hp) (p1 p2 p3 : Option Addr) (e1 e2 e3 : Nat) : Prop where
  dw : Dw N cv cs W
  d0 : Dw N cv cs w
  gr : w.grownBy W (some N)
  row : W.rowIs H 26 8 (fun i => (hv8 t p1 p2 p3 e1 e2 e3)[i]?.getD undef)
  hm : HM w.heap.size W (.agg (hv8 t p1 p2 p3 e1 e2 e3)) t
  res : ∃ f, W.rowIs w.heap.size 26 8 f
  wd : RI W gQ [0, 8, -6] 3
  hN : N < w.heap.size
  hH : w.heap.size < H
  hQ : w.heap.size ≤ gQ
  sm : Sm t
  wl : t.words.length = 3200
theorem LD.step {w : World} {N : Nat} {cv : Value} {cs : List UInt8} {H gQ : Nat} {W W' : World} {t : Hp} {p1 p2 p3 : Option Addr} {e1 e2 e3 : Nat} (k : LD w N cv cs H gQ W t p1 p2 p3 e1 e2 e3) (s : Sx W N cv cs W') : LD w N cv cs H gQ W' t p1 p2 p3 e1 e2 e3 := by
  obtain ⟨f, F⟩ := k.res
  have hN := k.hN
  have hH := k.hH
  have hQ := k.hQ
  have n1 : some H ≠ some N := fun e => by injection e; omega
  have n2 : some w.heap.size ≠ some N := fun e => by injection e; omega
  have n3 : some gQ ≠ some N := fun e => by injection e; omega
  exact ⟨s.2, k.d0, gtrans k.gr s.1, k.row.of_block (s.1.block _ k.row.lt n1), k.hm.off s.1 hN, ⟨f, F.of_block (s.1.block _ F.lt n2)⟩, k.wd.grown s.1 n3, hN, hH, hQ, k.sm, k.wl⟩
theorem LD.later {w : World} {N : Nat} {cv : Value} {cs : List UInt8} {H gQ : Nat} {W W' : World} {t : Hp} {p1 p2 p3 : Option Addr} {e1 e2 e3 : Nat} (k : LD w N cv cs H gQ W t p1 p2 p3 e1 e2 e3) (hb : Below W.heap.size W W') : LD w N cv cs H gQ W' t p1 p2 p3 e1 e2 e3 :=
  k.step ((Sx.refl k.dw).more hb (Nat.lt_of_lt_of_le k.hN k.gr.size))
/-- Another heap's box. -/
structure XB (w W : World) (b : Nat) (t : Hp) (p1 p2 p3 : Option Addr) (e1 e2 e3 : Nat) : Prop where
  row : W.rowIs b 26 8 (fun i => (hv8 t p1 p2 p3 e1 e2 e3)[i]?.getD undef)
  hm : HM w.heap.size W (.agg (hv8 t p1 p2 p3 e1 e2 e3)) t
  sm : Sm t
  lt : w.heap.size < b
theorem XB.step {w W W' : World} {N b : Nat} {cv : Value} {cs : List UInt8} {t : Hp} {p1 p2 p3 : Option Addr} {e1 e2 e3 : Nat} (k : XB w W b t p1 p2 p3 e1 e2 e3) (s : Sx W N cv cs W') (hN : N < w.heap.size) : XB w W' b t p1 p2 p3 e1 e2 e3 := by
  have lt := k.lt
  exact ⟨k.row.of_block (s.1.block _ k.row.lt (fun e => by injection e; omega)), k.hm.off s.1 hN, k.sm, lt⟩
/-- The heap is another one. -/
theorem LD.take {w : World} {N : Nat} {cv : Value} {cs : List UInt8} {H gQ : Nat} {W W' : World} {t t' : Hp} {p1 p2 p3 : Option Addr} {e1 e2 e3 : Nat} {q1 q2 q3 : Option Addr} {f1 f2 f3 : Nat} (k : LD w N cv cs H gQ W t p1 p2 p3 e1 e2 e3) (hx : HM w.heap.size W (.agg (hv8 t' q1 q2 q3 f1 f2 f3)) t') (sx : Sm t') (wx : t'.words.length = 3200) (g : W.grownBy W' (some H)) (r : W'.rowIs H 26 8 (fun i => (hv8 t' q1 q2 q3 f1 f2 f3)[i]?.getD undef)) : LD w N cv cs H gQ W' t' q1 q2 q3 f1 f2 f3 := by
  obtain ⟨f, F⟩ := k.res
  have hN := k.hN
  have hH := k.hH
  have n2 : some w.heap.size ≠ some H := fun e => by injection e; omega
  have nQ : some gQ ≠ some H := fun e => by
    injection e with e
    subst e
    obtain ⟨ff, ⟨c, hc, _⟩, _⟩ := k.wd
    obtain ⟨c', hc', _⟩ := k.row
    rw [hc] at hc'
    simp at hc'
  have G : w.grownBy W' (some N) := gmix k.gr g (fun b e => by injection e; omega)
  exact ⟨Dw.grown k.d0 G k.dw g (fun e => by injection e; omega) (Nat.lt_of_lt_of_le hN k.gr.size), k.d0, G, r, hx.box k.row g, ⟨f, F.of_block (g.block _ F.lt n2)⟩, k.wd.grown g nQ, hN, hH, k.hQ, sx, wx⟩

/-- Where eden ends, as the box tells. -/
def edOf (H : Nat) (w : World) : Nat := match w.cell? ⟨H, 3, none⟩ with
  | some (.int _ e) => e.toNat
  | _ => 0
theorem edOf_eq {H : Nat} {w : World} {e : Int} (h : w.cell? ⟨H, 3, none⟩ = some (.int .i64 e)) : edOf H w = e.toNat := by
  unfold edOf
  rw [h]
/-- What the draw of a heap leaves. -/
def DrawnH (w : World) (N : Nat) (cv : Value) (cs : List UInt8) (x : Ending) (w' : World) : Prop := (∃ u t, x = .returned u ∧ HM w.heap.size w' u t ∧ Sm t ∧ t.words.length = 3200) ∧ w.grownBy w' (some N) ∧ Dw N cv cs w'
theorem LD.done {w : World} {N : Nat} {cv : Value} {cs : List UInt8} {H gQ : Nat} {W W' : World} {t : Hp} {p1 p2 p3 : Option Addr} {e1 e2 e3 : Nat} (k : LD w N cv cs H gQ W t p1 p2 p3 e1 e2 e3) (g : W.grownBy W' (some w.heap.size)) : DrawnH w N cv cs (.returned (.agg (hv8 t p1 p2 p3 e1 e2 e3))) W' := by
  obtain ⟨f, F⟩ := k.res
  have hN := k.hN
  have G : w.grownBy W' (some N) := gmix k.gr g (fun b e => by injection e; omega)
  exact ⟨⟨_, t, rfl, k.hm.box F g, k.sm, k.wl⟩, G, Dw.grown k.d0 G k.dw g (fun e => by injection e; omega) (Nat.lt_of_lt_of_le hN k.gr.size)⟩

end Go.Proofs.YtklafifiphbibaaGreat

/- A drawn heap that may be changed further: its state. -/
namespace Go.Proofs.YtklafifiphbibaaGreat
open Go.RowKit

/-- Where the words are all there they lie in a row of their own. -/
def FWd (w : World) (t : Hp) (v1 : Value) : Prop := t.words.length = 3200 → ∃ g c, v1 = .slice (some ⟨g, 0, none⟩) t.words.length c ∧ RI w g t.words c
theorem FWd.block {w w' : World} {t : Hp} {v1 : Value} (h : FWd w t v1) (hk : ∀ b, inB v1 b → b < w.heap.size → w'.heap[b]? = w.heap[b]?) : FWd w' t v1 := fun e => by
  obtain ⟨g, c, rfl, R⟩ := h e
  exact ⟨g, c, rfl, R.block (hk g ⟨0, _, _, rfl, by omega⟩ R.lt)⟩
theorem FWd.of {B : Nat} {w : World} {t : Hp} {v1 : Value} (o1 : w.ownsRow B 2 1 v1 t.words.length (icells t.words)) : FWd w t v1 := fun e => by
  rcases o1.2 with ⟨_, q⟩ | ⟨g, cap, cur, q, _⟩
  · omega
  · subst q
    exact ⟨g, cap, rfl, (RI.of_owns o1).1⟩
/-- A heap whose words may lie within a row, and whose other lists are owned. -/
structure HA (B : Nat) (w : World) (t : Hp) (v1 v2 v3 : Value) : Prop where
  w1 : IR w v1 t.words
  b1 : ∀ b, inB v1 b → B ≤ b
  o2 : w.ownsRow B 2 1 v2 t.roots.length (icells t.roots)
  o3 : w.ownsRow B 2 1 v3 t.kept.length (icells t.kept)
  d1 : ∀ b, inB v1 b → v2.ownBlock ≠ some b ∧ v3.ownBlock ≠ some b
  d2 : ∀ b, v2.ownBlock = some b → v3.ownBlock ≠ some b
  fw : FWd w t v1
theorem HA.of {B : Nat} {w : World} {t : Hp} {v1 v2 v3 : Value} (o1 : w.ownsRow B 2 1 v1 t.words.length (icells t.words)) (o2 : w.ownsRow B 2 1 v2 t.roots.length (icells t.roots)) (o3 : w.ownsRow B 2 1 v3 t.kept.length (icells t.kept))
    (d1 : ∀ b, v1.ownBlock = some b → v2.ownBlock ≠ some b ∧ v3.ownBlock ≠ some b) (d2 : ∀ b, v2.ownBlock = some b → v3.ownBlock ≠ some b) : HA B w t v1 v2 v3 :=
  ⟨IR_of_owns o1, fun _ q => own_lowM o1 (inB_own o1 q), o2, o3, fun b q => d1 b (inB_own o1 q), d2, FWd.of o1⟩
theorem HA.hr {B : Nat} {w : World} {t : Hp} {v1 v2 v3 : Value} (k : HA B w t v1 v2 v3) : HR w (.agg #[v1, v2, .int .i64 t.old, .int .i64 t.eden, .int .i64 t.surv, .bool t.flip, .int .i64 t.hash, v3]) t :=
  ⟨v1, v2, v3, rfl, k.w1, IR_of_owns k.o2, IR_of_owns k.o3⟩
theorem HA.keep {B : Nat} {w w' : World} {t : Hp} {v1 v2 v3 : Value} (k : HA B w t v1 v2 v3) (hk : ∀ b, B ≤ b → b < w.heap.size → w'.heap[b]? = w.heap[b]?) : HA B w' t v1 v2 v3 := by
  refine ⟨IR.keep' k.w1 (fun a n c e hn => ?_), k.b1, own_keep k.o2 hk, own_keep k.o3 hk, k.d1, k.d2, k.fw.block (fun b q hl => hk b (k.b1 b q) hl)⟩
  obtain ⟨b, o, e2, _⟩ : ∃ b o, a = ⟨b, o, none⟩ ∧ b < w.heap.size := by
    obtain ⟨ao, cap, e3, _, hc⟩ := id k.w1
    rw [e] at e3
    simp only [Value.slice.injEq] at e3
    obtain ⟨rfl, rfl, -⟩ := e3
    obtain ⟨b, o, e4, hcell⟩ := hc 0 hn
    simp only [Option.some.injEq] at e4
    exact ⟨b, o, e4, World.block_lt_of_cell? _ _ hcell⟩
  subst e2
  have q : inB v1 b := ⟨o, n, c, e, hn⟩
  exact hk b (k.b1 b q) (k.w1.inlt q)
theorem HA.later {B : Nat} {w w' : World} {t : Hp} {v1 v2 v3 : Value} (k : HA B w t v1 v2 v3) (hb : Below w.heap.size w w') : HA B w' t v1 v2 v3 := k.keep (fun b _ hl => hb.block b hl)
theorem HA.off {B N : Nat} {w w' : World} {t : Hp} {v1 v2 v3 : Value} (k : HA B w t v1 v2 v3) (g : w.grownBy w' (some N)) (hN : N < B) : HA B w' t v1 v2 v3 := k.keep (fun b hb hl => g.block b hl (fun e => by injection e; omega))
theorem HA.down {B C : Nat} {w : World} {t : Hp} {v1 v2 v3 : Value} (k : HA B w t v1 v2 v3) (h : C ≤ B) : HA C w t v1 v2 v3 :=
  ⟨k.w1, fun b q => Nat.le_trans h (k.b1 b q), own_down k.o2 h, own_down k.o3 h, k.d1, k.d2, k.fw⟩
/-- A box is written. -/
theorem HA.box {B b m : Nat} {w w' : World} {t : Hp} {v1 v2 v3 : Value} {f : Nat → Value} (k : HA B w t v1 v2 v3) (hr : w.rowIs b 26 m f) (hg : w.grownBy w' (some b)) (hn : ¬ inB v1 b) : HA B w' t v1 v2 v3 := by
  refine ⟨?_, k.b1, own_box k.o2 hr hg, own_box k.o3 hr hg, k.d1, k.d2, k.fw.block (fun c q hl => hg.block c hl (fun e => hn (by injection e with e; subst e; exact q)))⟩
  have G := Grew.grown hg
  exact G.ir k.w1 (fun c q e => hn (by injection e with e; subst e; exact q))
/-- What the draw of a heap, changed or not, leaves. -/
def DrawnA (w : World) (N : Nat) (cv : Value) (cs : List UInt8) (x : Ending) (w' : World) : Prop := (∃ t v1 v2 v3, x = .returned (.agg #[v1, v2, .int .i64 t.old, .int .i64 t.eden, .int .i64 t.surv, .bool t.flip, .int .i64 t.hash, v3]) ∧ HA w.heap.size w' t v1 v2 v3 ∧ t.words.length ≤ 3200 ∧ t.roots.length ≤ 21 ∧ t.kept.length ≤ 3201) ∧ w.grownBy w' (some N) ∧ Dw N cv cs w'
def va8 (t : Hp) (v1 v2 v3 : Value) : Array Value := #[v1, v2, .int .i64 t.old, .int .i64 t.eden, .int .i64 t.surv, .bool t.flip, .int .i64 t.hash, v3]
theorem va8_cells {W : World} {b : Nat} {t : Hp} {v1 v2 v3 : Value} (k : W.rowIs b 26 8 (fun i => (va8 t v1 v2 v3)[i]?.getD undef)) :
    W.cell? ⟨b, 0, none⟩ = some v1 ∧ W.cell? ⟨b, 1, none⟩ = some v2 ∧ W.cell? ⟨b, 2, none⟩ = some (.int .i64 t.old) ∧ W.cell? ⟨b, 3, none⟩ = some (.int .i64 t.eden) ∧ W.cell? ⟨b, 4, none⟩ = some (.int .i64 t.surv) ∧ W.cell? ⟨b, 5, none⟩ = some (.bool t.flip) ∧ W.cell? ⟨b, 6, none⟩ = some (.int .i64 t.hash) ∧ W.cell? ⟨b, 7, none⟩ = some v3 :=
  ⟨k.cell (i := 0) (by omega), k.cell (i := 1) (by omega), k.cell (i := 2) (by omega), k.cell (i := 3) (by omega), k.cell (i := 4) (by omega), k.cell (i := 5) (by omega), k.cell (i := 6) (by omega), k.cell (i := 7) (by omega)⟩
/-- The drawn heap in its box H. -/
structure AD (w : World) (N : Nat) (cv : Value) (cs : List UInt8) (H : Nat) (W : World) (t : Hp) (v1 v2 v3 : Value) : Prop where
  dw : Dw N cv cs W
  d0 : Dw N cv cs w
  gr : w.grownBy W (some N)
  row : W.rowIs H 26 8 (fun i => (va8 t v1 v2 v3)[i]?.getD undef)
  ha : HA w.heap.size W t v1 v2 v3
  res : ∃ f, W.rowIs w.heap.size 26 8 f
  nH : ¬ inB v1 H
  nR : ¬ inB v1 w.heap.size
  hN : N < w.heap.size
  hH : w.heap.size < H
  sz : t.words.length ≤ 3200 ∧ t.roots.length ≤ 21 ∧ t.kept.length ≤ 3201
theorem AD.step {w : World} {N : Nat} {cv : Value} {cs : List UInt8} {H : Nat} {W W' : World} {t : Hp} {v1 v2 v3 : Value} (k : AD w N cv cs H W t v1 v2 v3) (s : Sx W N cv cs W') : AD w N cv cs H W' t v1 v2 v3 := by
  obtain ⟨f, F⟩ := k.res
  have hN := k.hN
  have hH := k.hH
  have n1 : some H ≠ some N := fun e => by injection e; omega
  have n2 : some w.heap.size ≠ some N := fun e => by injection e; omega
  exact ⟨s.2, k.d0, gtrans k.gr s.1, k.row.of_block (s.1.block _ k.row.lt n1), k.ha.off s.1 hN, ⟨f, F.of_block (s.1.block _ F.lt n2)⟩, k.nH, k.nR, hN, hH, k.sz⟩
theorem AD.later {w : World} {N : Nat} {cv : Value} {cs : List UInt8} {H : Nat} {W W' : World} {t : Hp} {v1 v2 v3 : Value} (k : AD w N cv cs H W t v1 v2 v3) (hb : Below W.heap.size W W') : AD w N cv cs H W' t v1 v2 v3 :=
  k.step ((Sx.refl k.dw).more hb (Nat.lt_of_lt_of_le k.hN k.gr.size))
/-- One cell of the box is written, and the heap is another one. -/
theorem AD.put {w : World} {N : Nat} {cv : Value} {cs : List UInt8} {H : Nat} {W : World} {t : Hp} {v1 v2 v3 : Value} (k : AD w N cv cs H W t v1 v2 v3) (j : Nat) (x : Value) (t' : Hp) (u1 u2 u3 : Value) (_hj : j < 8) (e : ∀ i, i < 8 → (if i = j then x else (va8 t v1 v2 v3)[i]?.getD undef) = (va8 t' u1 u2 u3)[i]?.getD undef)
    (ha : HA w.heap.size (W.setCell ⟨H, j, none⟩ x) t' u1 u2 u3) (n1 : ¬ inB u1 H) (n2 : ¬ inB u1 w.heap.size) (sz : t'.words.length ≤ 3200 ∧ t'.roots.length ≤ 21 ∧ t'.kept.length ≤ 3201) : AD w N cv cs H (W.setCell ⟨H, j, none⟩ x) t' u1 u2 u3 := by
  obtain ⟨f, F⟩ := k.res
  have hN := k.hN
  have hH := k.hH
  have g := gset1 W H j x
  have G : w.grownBy (W.setCell ⟨H, j, none⟩ x) (some N) := gmix k.gr g (fun b e => by injection e; omega)
  exact ⟨Dw.grown k.d0 G k.dw g (fun e => by injection e; omega) (Nat.lt_of_lt_of_le hN k.gr.size), k.d0, G, (k.row.set j x).congr e, ha, ⟨f, F.setOther (a := ⟨H, j, none⟩) (by show w.heap.size ≠ H; omega) x⟩, n1, n2, hN, hH, sz⟩
theorem AD.done {w : World} {N : Nat} {cv : Value} {cs : List UInt8} {H : Nat} {W W' : World} {t : Hp} {v1 v2 v3 : Value} (k : AD w N cv cs H W t v1 v2 v3) (g : W.grownBy W' (some w.heap.size)) : DrawnA w N cv cs (.returned (.agg (va8 t v1 v2 v3))) W' := by
  obtain ⟨f, F⟩ := k.res
  have hN := k.hN
  have G : w.grownBy W' (some N) := gmix k.gr g (fun b e => by injection e; omega)
  exact ⟨⟨t, v1, v2, v3, rfl, k.ha.box F g k.nR, k.sz⟩, G, Dw.grown k.d0 G k.dw g (fun e => by injection e; omega) (Nat.lt_of_lt_of_le hN k.gr.size)⟩

theorem AD.put' {w : World} {N : Nat} {cv : Value} {cs : List UInt8} {H : Nat} {W : World} {t : Hp} {v1 v2 v3 : Value} (k : AD w N cv cs H W t v1 v2 v3) (j : Nat) (x : Value) (t' : Hp) (u1 u2 u3 : Value) (hj : j < 8) (e : ∀ i, i < 8 → (if i = j then x else (va8 t v1 v2 v3)[i]?.getD undef) = (va8 t' u1 u2 u3)[i]?.getD undef)
    (ha : HA w.heap.size W t' u1 u2 u3) (n1 : ¬ inB u1 H) (n2 : ¬ inB u1 w.heap.size) (sz : t'.words.length ≤ 3200 ∧ t'.roots.length ≤ 21 ∧ t'.kept.length ≤ 3201) : AD w N cv cs H (W.setCell ⟨H, j, none⟩ x) t' u1 u2 u3 :=
  k.put j x t' u1 u2 u3 hj e (ha.box k.row (gset1 W H j x) n1) n1 n2 sz
theorem AD.old {w : World} {N : Nat} {cv : Value} {cs : List UInt8} {H : Nat} {W : World} {t : Hp} {v1 v2 v3 : Value} (k : AD w N cv cs H W t v1 v2 v3) (y : Int) : AD w N cv cs H (W.setCell ⟨H, 2, none⟩ (.int .i64 y)) { t with old := y } v1 v2 v3 :=
  k.put' 2 _ _ v1 v2 v3 (by omega) (fun i hi => by rcases i with _ | _ | _ | _ | _ | _ | _ | _ | i <;> first | rfl | omega) ⟨k.ha.w1, k.ha.b1, k.ha.o2, k.ha.o3, k.ha.d1, k.ha.d2, k.ha.fw⟩ k.nH k.nR k.sz
theorem AD.eden {w : World} {N : Nat} {cv : Value} {cs : List UInt8} {H : Nat} {W : World} {t : Hp} {v1 v2 v3 : Value} (k : AD w N cv cs H W t v1 v2 v3) (y : Int) : AD w N cv cs H (W.setCell ⟨H, 3, none⟩ (.int .i64 y)) { t with eden := y } v1 v2 v3 :=
  k.put' 3 _ _ v1 v2 v3 (by omega) (fun i hi => by rcases i with _ | _ | _ | _ | _ | _ | _ | _ | i <;> first | rfl | omega) ⟨k.ha.w1, k.ha.b1, k.ha.o2, k.ha.o3, k.ha.d1, k.ha.d2, k.ha.fw⟩ k.nH k.nR k.sz
theorem AD.flip {w : World} {N : Nat} {cv : Value} {cs : List UInt8} {H : Nat} {W : World} {t : Hp} {v1 v2 v3 : Value} (k : AD w N cv cs H W t v1 v2 v3) (y : Bool) : AD w N cv cs H (W.setCell ⟨H, 5, none⟩ (.bool y)) { t with flip := y } v1 v2 v3 :=
  k.put' 5 _ _ v1 v2 v3 (by omega) (fun i hi => by rcases i with _ | _ | _ | _ | _ | _ | _ | _ | i <;> first | rfl | omega) ⟨k.ha.w1, k.ha.b1, k.ha.o2, k.ha.o3, k.ha.d1, k.ha.d2, k.ha.fw⟩ k.nH k.nR k.sz
theorem AD.hash {w : World} {N : Nat} {cv : Value} {cs : List UInt8} {H : Nat} {W : World} {t : Hp} {v1 v2 v3 : Value} (k : AD w N cv cs H W t v1 v2 v3) (y : Int) : AD w N cv cs H (W.setCell ⟨H, 6, none⟩ (.int .i64 y)) { t with hash := y } v1 v2 v3 :=
  k.put' 6 _ _ v1 v2 v3 (by omega) (fun i hi => by rcases i with _ | _ | _ | _ | _ | _ | _ | _ | i <;> first | rfl | omega) ⟨k.ha.w1, k.ha.b1, k.ha.o2, k.ha.o3, k.ha.d1, k.ha.d2, k.ha.fw⟩ k.nH k.nR k.sz
/-- The words lose their first. -/
theorem AD.cut {w : World} {N : Nat} {cv : Value} {cs : List UInt8} {H : Nat} {W : World} {t : Hp} {g n c c' : Nat} {v2 v3 : Value} (k : AD w N cv cs H W t (.slice (some ⟨g, 0, none⟩) n c) v2 v3) (hn : n = t.words.length) (h1 : 1 ≤ n) (hc : n - 1 ≤ c') : AD w N cv cs H (W.setCell ⟨H, 0, none⟩ (.slice (some ⟨g, 1, none⟩) (n - 1) c')) { t with words := t.words.drop 1 } (.slice (some ⟨g, 1, none⟩) (n - 1) c') v2 v3 := by
  have sub : ∀ b, inB (.slice (some ⟨g, 1, none⟩) (n - 1) c') b → inB (.slice (some ⟨g, 0, none⟩) n c) b := fun b q => by
    obtain ⟨o, m, d, e, hm⟩ := q
    simp only [Value.slice.injEq, Option.some.injEq, Addr.mk.injEq] at e
    obtain ⟨⟨rfl, _, _⟩, rfl, _⟩ := e
    exact ⟨0, n, c, rfl, by omega⟩
  refine k.put' 0 _ _ _ v2 v3 (by omega) (fun i hi => by rcases i with _ | _ | _ | _ | _ | _ | _ | _ | i <;> first | rfl | omega) ⟨?_, fun b q => k.ha.b1 b (sub b q), k.ha.o2, k.ha.o3, fun b q => k.ha.d1 b (sub b q), k.ha.d2, fun e => by
    have e : (t.words.drop 1).length = 3200 := e
    rw [List.length_drop] at e
    have := k.sz.1
    omega⟩ (fun q => k.nH (sub _ q)) (fun q => k.nR (sub _ q)) ⟨?_, k.sz.2⟩
  · obtain ⟨ao, cap, e, _, hcell⟩ := id k.ha.w1
    simp only [Value.slice.injEq] at e
    obtain ⟨rfl, rfl, rfl⟩ := e
    refine ⟨_, c', by show _ = Value.slice _ (t.words.drop 1).length _; rw [List.length_drop], by show (t.words.drop 1).length ≤ c'; rw [List.length_drop]; exact hc, fun i hi => ?_⟩
    have hi' : i < (t.words.drop 1).length := hi
    rw [List.length_drop] at hi'
    obtain ⟨b, o, e, q⟩ := hcell (i + 1) (by omega)
    simp only [Option.some.injEq, Addr.mk.injEq, and_true] at e
    obtain ⟨rfl, rfl⟩ := e
    refine ⟨g, 1, rfl, ?_⟩
    rw [show 1 + i = 0 + (i + 1) from by omega, q]
    show _ = some (Value.int .i64 ((t.words.drop 1).getD i 0))
    simp [List.getD_eq_getElem?_getD]
  · show (t.words.drop 1).length ≤ 3200
    rw [List.length_drop]
    have := k.sz.1
    omega
/-- One word is another. -/
theorem AD.word {w : World} {N : Nat} {cv : Value} {cs : List UInt8} {H : Nat} {W : World} {t : Hp} {g c : Nat} {v2 v3 : Value} (k : AD w N cv cs H W t (.slice (some ⟨g, 0, none⟩) t.words.length c) v2 v3) (R : RI W g t.words c) (hp : 0 < t.words.length) (i : Nat) (x : Int) : AD w N cv cs H (W.setCell ⟨g, i, none⟩ (.int .i64 x)) { t with words := t.words.set i x } (.slice (some ⟨g, 0, none⟩) t.words.length c) v2 v3 := by
  obtain ⟨f, F⟩ := k.res
  have hN := k.hN
  have q : inB (.slice (some ⟨g, 0, none⟩) t.words.length c) g := ⟨0, _, _, rfl, hp⟩
  have gB := k.ha.b1 g q
  have nH : H ≠ g := fun e => k.nH (by rw [e]; exact q)
  have nR : w.heap.size ≠ g := fun e => k.nR (by rw [e]; exact q)
  have g0 := gset1 W g i (.int .i64 x)
  have G : w.grownBy (W.setCell ⟨g, i, none⟩ (.int .i64 x)) (some N) := gmix k.gr g0 (fun b e => by injection e; omega)
  have GG := Grew.set W g i (.int .i64 x)
  have d := k.ha.d1 g q
  refine ⟨Dw.grown k.d0 G k.dw g0 (fun e => by injection e; omega) (Nat.lt_of_lt_of_le hN k.gr.size), k.d0, G, ?_, ⟨?_, k.ha.b1, GG.own k.ha.o2 (fun b hb e => d.1 (by rw [hb, e])), GG.own k.ha.o3 (fun b hb e => d.2 (by rw [hb, e])), k.ha.d1, k.ha.d2, fun _ => ⟨g, c, by show _ = Value.slice _ (t.words.set i x).length _; rw [List.length_set], R.set i x⟩⟩, ⟨f, GG.row F nR⟩, k.nH, k.nR, hN, k.hH, ⟨by show (t.words.set i x).length ≤ 3200; rw [List.length_set]; exact k.sz.1, k.sz.2⟩⟩
  · exact (GG.row k.row nH).congr (fun _ _ => rfl)
  · have r := (R.set i x).ir (cap := c) (by rw [List.length_set]; exact R.le)
    rw [List.length_set] at r
    exact r
/-- append of one number to a list that is owned, and where the new row lies. -/
theorem run_app_loc (w : World) (ty : TypeId) (B : Nat) (v : Value) (l : List Int) (n : Nat) (hn : n = l.length) (own : w.ownsRow B 2 1 v n (icells l)) (hl : l.length ≤ 1000000) (g c : Nat) (z : Int) (hc : w.cell? ⟨g, 0, none⟩ = some (.int .i64 z)) (hB : B ≤ w.heap.size) :
    ∃ v' w', (Builtin.append_ #[24, 24] ty #[v, .slice (some ⟨g, 0, none⟩) 1 c]).run Tryz.prog w = .ok v' w' ∧ w'.ownsRow B 2 1 v' (l.length + 1) (icells (l ++ [z])) ∧ w.grownBy w' v.ownBlock ∧ (v'.ownBlock = v.ownBlock ∨ v'.ownBlock = some w.heap.size) := by
  subst hn
  obtain ⟨i, hi, hzz⟩ := Option.map_eq_some_iff.1 Tryz.infoI
  simp only [Prod.mk.injEq] at hzz
  obtain ⟨hz, hsz, hby⟩ := hzz
  obtain ⟨v', w', run, h1, h2, _, h4⟩ := run_append_own_at (P := Tryz.prog) w B 24 ty 2 i _ 1 8 Tryz.underlying24 hi hz hsz hby rfl (by omega) v l.length (icells l) own ⟨g, 0, none⟩ 1 c [.int .i64 z] rfl (fun j u hj => by
    match j, hj with
    | 0, hj => simp at hj; subst hj; simpa [Addr.add] using hc) (fun u hu => by simp at hu; subst hu; rfl) (by unfold maxLen; omega) (by omega) hB
  refine ⟨v', w', run, ?_, h2, h4⟩
  have e : icells l ++ [Value.int .i64 z] = icells (l ++ [z]) := by simp [icells]
  rw [e] at h1
  exact h1
theorem app_loc {ops : Array Oper} {rest : List Oper} {o : Oper} {a : Act} {Q : Exit → Act → World → Prop} (w : World) (hgd : o.guard = none) (s x : Operand)
    (ho : o.op = .call { callee := .builtin .append, args := #[s, x], argTypes := #[24, 24] }) (B : Nat) (v : Value) (l : List Int) (n : Nat) (hn : n = l.length) (hs : a.eval s = v) (own : w.ownsRow B 2 1 v n (icells l)) (hl : l.length ≤ 1000000)
    (g c : Nat) (z : Int) (hx : a.eval x = .slice (some ⟨g, 0, none⟩) 1 c) (hc : w.cell? ⟨g, 0, none⟩ = some (.int .i64 z)) (hB : B ≤ w.heap.size)
    (h : ∀ v' w', w'.ownsRow B 2 1 v' (l.length + 1) (icells (l ++ [z])) → w.grownBy w' v.ownBlock → (v'.ownBlock = v.ownBlock ∨ v'.ownBlock = some w.heap.size) → wpList Tryz.prog ops Q rest (a.put o.dst v') w') : wpList Tryz.prog ops Q (o :: rest) a w := by
  refine wpList_plain hgd fun K hK => ?_
  obtain ⟨v', w', run, h1, h2, h3⟩ := run_app_loc w o.type B v l n hn own hl g c z hc hB
  unfold Oper.wp
  simp [execOp, ho, resolve, invoke, builtin, hs, hx, run, Result.andThen]
  exact hK _ _ (h v' w' h1 h2 h3)
/-- The list of what is kept has grown by one, or the roots have: all else stays. -/
theorem AD.grew {w : World} {N : Nat} {cv : Value} {cs : List UInt8} {H : Nat} {W W' : World} {t : Hp} {v1 v2 v3 : Value} (k : AD w N cv cs H W t v1 v2 v3) (r : Option Nat) (hr : r = v2.ownBlock ∨ r = v3.ownBlock) (g : W.grownBy W' r) : Dw N cv cs W' ∧ w.grownBy W' (some N) ∧ W'.rowIs H 26 8 (fun i => (va8 t v1 v2 v3)[i]?.getD undef) ∧ (∃ f, W'.rowIs w.heap.size 26 8 f) ∧ IR W' v1 t.words := by
  obtain ⟨f, F⟩ := k.res
  have hN := k.hN
  have lo : ∀ b, r = some b → w.heap.size ≤ b := fun b e => by
    rcases hr with q | q
    · exact own_lowM k.ha.o2 (by rw [← q]; exact e)
    · exact own_lowM k.ha.o3 (by rw [← q]; exact e)
  have G : w.grownBy W' (some N) := gmix k.gr g lo
  have ne : ∀ b m f, W.rowIs b 26 m f → some b ≠ r := fun b m f h e => by
    rcases hr with q | q
    · exact own_apart k.ha.o2 (by decide) h (by rw [← q]; exact e.symm)
    · exact own_apart k.ha.o3 (by decide) h (by rw [← q]; exact e.symm)
  refine ⟨Dw.grown k.d0 G k.dw g (fun e => by have := lo N e.symm; omega) (Nat.lt_of_lt_of_le hN k.gr.size), G, k.row.of_block (g.block _ k.row.lt (ne _ _ _ k.row)), ⟨f, F.of_block (g.block _ F.lt (ne _ _ _ F))⟩, ?_⟩
  refine (Grew.grown g).ir k.ha.w1 (fun b q e => ?_)
  have d := k.ha.d1 b q
  rcases hr with h | h
  · exact d.1 (by rw [← h]; exact e)
  · exact d.2 (by rw [← h]; exact e)
theorem own_len1 {w : World} {B : Nat} {v : Value} {l : List Int} {z : Int} (h : w.ownsRow B 2 1 v (l.length + 1) (icells (l ++ [z]))) : w.ownsRow B 2 1 v (l ++ [z]).length (icells (l ++ [z])) := by
  rw [List.length_append, List.length_singleton]
  exact h
theorem AD.kept {w : World} {N : Nat} {cv : Value} {cs : List UInt8} {H : Nat} {W W' : World} {t : Hp} {v1 v2 v3 u : Value} {l : List Int} (k : AD w N cv cs H W t v1 v2 v3) (own : W'.ownsRow w.heap.size 2 1 u l.length (icells l)) (g : W.grownBy W' v3.ownBlock) (lo : u.ownBlock = v3.ownBlock ∨ u.ownBlock = some W.heap.size) (hl : l.length ≤ 3201) :
    AD w N cv cs H (W'.setCell ⟨H, 7, none⟩ u) { t with kept := l } v1 v2 u := by
  obtain ⟨dw, G, row, res, i1⟩ := k.grew _ (.inr rfl) g
  have d2 : ∀ b, v2.ownBlock = some b → u.ownBlock ≠ some b := fun b q e => by
    rcases lo with h | h
    · exact k.ha.d2 b q (by rw [← h]; exact e)
    · rw [h] at e
      have := (k.ha.o2.lt b q).2
      injection e
      omega
  have d1 : ∀ b, inB v1 b → v2.ownBlock ≠ some b ∧ u.ownBlock ≠ some b := fun b q => ⟨(k.ha.d1 b q).1, fun e => by
    rcases lo with h | h
    · exact (k.ha.d1 b q).2 (by rw [← h]; exact e)
    · rw [h] at e
      have := k.ha.w1.inlt q
      injection e
      omega⟩
  have o2 := (Grew.grown g).own k.ha.o2 (fun b q e => k.ha.d2 b q e)
  have g0 := gset1 W' H 7 u
  have hH := k.hH
  have hN := k.hN
  have G2 : w.grownBy (W'.setCell ⟨H, 7, none⟩ u) (some N) := gmix G g0 (fun b e => by injection e; omega)
  obtain ⟨f, F⟩ := res
  exact ⟨Dw.grown k.d0 G2 dw g0 (fun e => by injection e; omega) (Nat.lt_of_lt_of_le hN G.size), k.d0, G2, (row.set 7 u).congr (fun i hi => by rcases i with _ | _ | _ | _ | _ | _ | _ | _ | i <;> first | rfl | omega), (⟨i1, k.ha.b1, o2, own, d1, d2, k.ha.fw.block (fun b q hl => g.block b hl (fun e => (k.ha.d1 b q).2 e.symm))⟩ : HA w.heap.size W' { t with kept := l } v1 v2 u).box row g0 k.nH, ⟨f, F.setOther (a := ⟨H, 7, none⟩) (by show w.heap.size ≠ H; omega) u⟩, k.nH, k.nR, hN, hH, ⟨k.sz.1, k.sz.2.1, hl⟩⟩
theorem AD.roots {w : World} {N : Nat} {cv : Value} {cs : List UInt8} {H : Nat} {W W' : World} {t : Hp} {v1 v2 v3 u : Value} {l : List Int} (k : AD w N cv cs H W t v1 v2 v3) (own : W'.ownsRow w.heap.size 2 1 u l.length (icells l)) (g : W.grownBy W' v2.ownBlock) (lo : u.ownBlock = v2.ownBlock ∨ u.ownBlock = some W.heap.size) (hl : l.length ≤ 21) :
    AD w N cv cs H (W'.setCell ⟨H, 1, none⟩ u) { t with roots := l } v1 u v3 := by
  obtain ⟨dw, G, row, res, i1⟩ := k.grew _ (.inl rfl) g
  have d2 : ∀ b, u.ownBlock = some b → v3.ownBlock ≠ some b := fun b e q => by
    rcases lo with h | h
    · exact k.ha.d2 b (by rw [← h]; exact e) q
    · rw [h] at e
      have := (k.ha.o3.lt b q).2
      injection e
      omega
  have d1 : ∀ b, inB v1 b → u.ownBlock ≠ some b ∧ v3.ownBlock ≠ some b := fun b q => ⟨fun e => by
    rcases lo with h | h
    · exact (k.ha.d1 b q).1 (by rw [← h]; exact e)
    · rw [h] at e
      have := k.ha.w1.inlt q
      injection e
      omega, (k.ha.d1 b q).2⟩
  have o3 := (Grew.grown g).own k.ha.o3 (fun b q e => k.ha.d2 b e q)
  have g0 := gset1 W' H 1 u
  have hH := k.hH
  have hN := k.hN
  have G2 : w.grownBy (W'.setCell ⟨H, 1, none⟩ u) (some N) := gmix G g0 (fun b e => by injection e; omega)
  obtain ⟨f, F⟩ := res
  exact ⟨Dw.grown k.d0 G2 dw g0 (fun e => by injection e; omega) (Nat.lt_of_lt_of_le hN G.size), k.d0, G2, (row.set 1 u).congr (fun i hi => by rcases i with _ | _ | _ | _ | _ | _ | _ | _ | i <;> first | rfl | omega), (⟨i1, k.ha.b1, own, o3, d1, d2, k.ha.fw.block (fun b q hl => g.block b hl (fun e => (k.ha.d1 b q).1 e.symm))⟩ : HA w.heap.size W' { t with roots := l } v1 u v3).box row g0 k.nH, ⟨f, F.setOther (a := ⟨H, 1, none⟩) (by show w.heap.size ≠ H; omega) u⟩, k.nH, k.nR, hN, hH, ⟨k.sz.1, hl, k.sz.2.2⟩⟩

end Go.Proofs.YtklafifiphbibaaGreat
