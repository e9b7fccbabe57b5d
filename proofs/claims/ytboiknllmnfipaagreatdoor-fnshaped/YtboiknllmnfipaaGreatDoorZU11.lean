
import Derived.Test.YtboiknllmnfipaaGreatDoorZU10
import Derived.Test.YtboiknllmnfipaaGreatDoorZU7
import Derived.Test.YtboiknllmnfipaaGreatDoorZCSpec
import Derived.Test.YtboiknllmnfipaaGreatDoorZMSNew
import Derived.Deep.DeepCutAuto
import Derived.Test.YtboiknllmnfipaaGreatDoorZU6
/- SetRoot of the model. -/
namespace Go.Proofs.YtboiknllmnfipaaGreatDoor
open Go.RowKit

set_option maxRecDepth 100000 in
set_option maxHeartbeats 3200000 in
theorem specSetRoot_m (v : Value) (h : Hp) (i x : Int) (w : World) (hv : HR w v h) (hwo : h.words.length ≤ 1000000000000) (hro : h.roots.length ≤ 1000000000000) (hke : h.kept.length ≤ 1000000000000) (hx : In64 x) :
    Calls Tryz.prog 73 #[v, .int .i64 i, .int .i64 x] w fun e w' => (∃ u, e = .returned (.tuple #[u, .bool (setB h i x)]) ∧ HM w.heap.size w' u (setC h i x)) ∧ Below w.heap.size w w' := by
  obtain ⟨v1, v2, v3, rfl, i1, i2, i3⟩ := id hv
  obtain ⟨a1, c1, rfl, -⟩ := IRs i1
  obtain ⟨a2, c2, rfl, -⟩ := IRs i2
  obtain ⟨a3, c3, rfl, -⟩ := IRs i3
  have S0 := CS.new w (.slice a1 h.words.length c1) (.slice a2 h.roots.length c2) (.int .i64 h.old) (.int .i64 h.eden) (.int .i64 h.surv) (.bool h.flip) (.int .i64 h.hash) (.slice a3 h.kept.length c3)
  have C := specHeapOk_c _ h _ (hv.later S0.bel) hro hke
  clear i1 i2 i3
  go_enter Tryz.func73, Tryz.ntmps73
  go_wp2_with fail
  refine C.mono ?_
  rintro e w1 ⟨rfl, hb1⟩
  have S1 := S0.later hb1
  clear C S0 hb1
  cases hk : okC h
  · have AB : setB h i x = false := by unfold setB; rw [hk]; rfl
    obtain ⟨fk, K⟩ := S1.res
    have fR := fun i => K.frozen i
    have r0 := K.cell (i := 0) (by omega)
    have r1 := K.cell (i := 1) (by omega)
    have r2 := K.cell (i := 2) (by omega)
    have r3 := K.cell (i := 3) (by omega)
    have r4 := K.cell (i := 4) (by omega)
    have r5 := K.cell (i := 5) (by omega)
    have r6 := K.cell (i := 6) (by omega)
    have r7 := K.cell (i := 7) (by omega)
    have ltR := K.lt
    have B9 : Below w.heap.size w ((((((((w1.setCell ⟨w.heap.size + 1, 0, none⟩ (.slice none 0 0)).setCell ⟨w.heap.size + 1, 1, none⟩ (.slice none 0 0)).setCell ⟨w.heap.size + 1, 2, none⟩ (.int .i64 0)).setCell ⟨w.heap.size + 1, 3, none⟩ (.int .i64 0)).setCell ⟨w.heap.size + 1, 4, none⟩ (.int .i64 0)).setCell ⟨w.heap.size + 1, 5, none⟩ (.bool false)).setCell ⟨w.heap.size + 1, 6, none⟩ (.int .i64 0)).setCell ⟨w.heap.size + 1, 7, none⟩ (.slice none 0 0)) := by
      repeat (refine Below.setCell ?_ (p := ⟨w.heap.size + 1, _, none⟩) (Nat.le_succ _) _)
      exact S1.bel
    obtain ⟨o0, o1, o2, o3, o4, o5, o6, o7⟩ :  w1.cell? ⟨w.heap.size, 0, none⟩ = some (.slice a1 h.words.length c1) ∧ w1.cell? ⟨w.heap.size, 1, none⟩ = some (.slice a2 h.roots.length c2) ∧ w1.cell? ⟨w.heap.size, 2, none⟩ = some (.int .i64 h.old) ∧ w1.cell? ⟨w.heap.size, 3, none⟩ = some (.int .i64 h.eden) ∧ w1.cell? ⟨w.heap.size, 4, none⟩ = some (.int .i64 h.surv) ∧ w1.cell? ⟨w.heap.size, 5, none⟩ = some (.bool h.flip) ∧ w1.cell? ⟨w.heap.size, 6, none⟩ = some (.int .i64 h.hash) ∧ w1.cell? ⟨w.heap.size, 7, none⟩ = some (.slice a3 h.kept.length c3)  := ⟨S1.c0, S1.c1, S1.c2, S1.c3, S1.c4, S1.c5, S1.c6, S1.c7⟩
    clear K S1
    go_wp2
    exact bodyPost_ret (v := .tuple #[.agg #[.slice none 0 0, .slice none 0 0, .int .i64 0, .int .i64 0, .int .i64 0, .bool false, .int .i64 0, .slice none 0 0], .bool false]) (by simp [results, Tryz.results73, go_sem, r0, r1, r2, r3, r4, r5, r6, r7]) rfl ⟨⟨_, zero_retm AB (set_no AB)⟩, B9⟩
  have LW := l7Word_c _ h x _ (hv.later S1.bel) hk hx
  obtain ⟨o0, o1, o2, o3, o4, o5, o6, o7⟩ :  w1.cell? ⟨w.heap.size, 0, none⟩ = some (.slice a1 h.words.length c1) ∧ w1.cell? ⟨w.heap.size, 1, none⟩ = some (.slice a2 h.roots.length c2) ∧ w1.cell? ⟨w.heap.size, 2, none⟩ = some (.int .i64 h.old) ∧ w1.cell? ⟨w.heap.size, 3, none⟩ = some (.int .i64 h.eden) ∧ w1.cell? ⟨w.heap.size, 4, none⟩ = some (.int .i64 h.surv) ∧ w1.cell? ⟨w.heap.size, 5, none⟩ = some (.bool h.flip) ∧ w1.cell? ⟨w.heap.size, 6, none⟩ = some (.int .i64 h.hash) ∧ w1.cell? ⟨w.heap.size, 7, none⟩ = some (.slice a3 h.kept.length c3)  := ⟨S1.c0, S1.c1, S1.c2, S1.c3, S1.c4, S1.c5, S1.c6, S1.c7⟩
  go_wp2_with fail
  refine LW.mono ?_
  rintro e w2 ⟨rfl, hb2⟩
  have S2 := S1.later hb2
  clear S1 LW hb2 o0 o1 o2 o3 o4 o5 o6 o7
  have LI := fun W => wl1In_any i 0 ((h.roots.length : Int) - 1) W
  cases hft : fitB (obC h) x
  · have AB : setB h i x = false := by unfold setB; rw [hk, hft]; rfl
    obtain ⟨fk, K⟩ := S2.res
    have fR := fun i => K.frozen i
    have r0 := K.cell (i := 0) (by omega)
    have r1 := K.cell (i := 1) (by omega)
    have r2 := K.cell (i := 2) (by omega)
    have r3 := K.cell (i := 3) (by omega)
    have r4 := K.cell (i := 4) (by omega)
    have r5 := K.cell (i := 5) (by omega)
    have r6 := K.cell (i := 6) (by omega)
    have r7 := K.cell (i := 7) (by omega)
    have ltR := K.lt
    have B9 : Below w.heap.size w ((((((((w2.setCell ⟨w.heap.size + 1, 0, none⟩ (.slice none 0 0)).setCell ⟨w.heap.size + 1, 1, none⟩ (.slice none 0 0)).setCell ⟨w.heap.size + 1, 2, none⟩ (.int .i64 0)).setCell ⟨w.heap.size + 1, 3, none⟩ (.int .i64 0)).setCell ⟨w.heap.size + 1, 4, none⟩ (.int .i64 0)).setCell ⟨w.heap.size + 1, 5, none⟩ (.bool false)).setCell ⟨w.heap.size + 1, 6, none⟩ (.int .i64 0)).setCell ⟨w.heap.size + 1, 7, none⟩ (.slice none 0 0)) := by
      repeat (refine Below.setCell ?_ (p := ⟨w.heap.size + 1, _, none⟩) (Nat.le_succ _) _)
      exact S2.bel
    obtain ⟨o0, o1, o2, o3, o4, o5, o6, o7⟩ :  w2.cell? ⟨w.heap.size, 0, none⟩ = some (.slice a1 h.words.length c1) ∧ w2.cell? ⟨w.heap.size, 1, none⟩ = some (.slice a2 h.roots.length c2) ∧ w2.cell? ⟨w.heap.size, 2, none⟩ = some (.int .i64 h.old) ∧ w2.cell? ⟨w.heap.size, 3, none⟩ = some (.int .i64 h.eden) ∧ w2.cell? ⟨w.heap.size, 4, none⟩ = some (.int .i64 h.surv) ∧ w2.cell? ⟨w.heap.size, 5, none⟩ = some (.bool h.flip) ∧ w2.cell? ⟨w.heap.size, 6, none⟩ = some (.int .i64 h.hash) ∧ w2.cell? ⟨w.heap.size, 7, none⟩ = some (.slice a3 h.kept.length c3)  := ⟨S2.c0, S2.c1, S2.c2, S2.c3, S2.c4, S2.c5, S2.c6, S2.c7⟩
    clear K S2
    go_wp2
    exact bodyPost_ret (v := .tuple #[.agg #[.slice none 0 0, .slice none 0 0, .int .i64 0, .int .i64 0, .int .i64 0, .bool false, .int .i64 0, .slice none 0 0], .bool false]) (by simp [results, Tryz.results73, go_sem, r0, r1, r2, r3, r4, r5, r6, r7]) rfl ⟨⟨_, zero_retm AB (set_no AB)⟩, B9⟩
  by_cases hi : 0 ≤ i ∧ i ≤ (h.roots.length : Int) - 1
  case neg =>
    have AB : setB h i x = false := by unfold setB; rw [hk, hft, decide_eq_false (by omega)]; rfl
    rw [decide_eq_false hi] at LI
    obtain ⟨fk, K⟩ := S2.res
    have fR := fun i => K.frozen i
    have r0 := K.cell (i := 0) (by omega)
    have r1 := K.cell (i := 1) (by omega)
    have r2 := K.cell (i := 2) (by omega)
    have r3 := K.cell (i := 3) (by omega)
    have r4 := K.cell (i := 4) (by omega)
    have r5 := K.cell (i := 5) (by omega)
    have r6 := K.cell (i := 6) (by omega)
    have r7 := K.cell (i := 7) (by omega)
    have ltR := K.lt
    have B9 : Below w.heap.size w ((((((((w2.setCell ⟨w.heap.size + 1, 0, none⟩ (.slice none 0 0)).setCell ⟨w.heap.size + 1, 1, none⟩ (.slice none 0 0)).setCell ⟨w.heap.size + 1, 2, none⟩ (.int .i64 0)).setCell ⟨w.heap.size + 1, 3, none⟩ (.int .i64 0)).setCell ⟨w.heap.size + 1, 4, none⟩ (.int .i64 0)).setCell ⟨w.heap.size + 1, 5, none⟩ (.bool false)).setCell ⟨w.heap.size + 1, 6, none⟩ (.int .i64 0)).setCell ⟨w.heap.size + 1, 7, none⟩ (.slice none 0 0)) := by
      repeat (refine Below.setCell ?_ (p := ⟨w.heap.size + 1, _, none⟩) (Nat.le_succ _) _)
      exact S2.bel
    obtain ⟨o0, o1, o2, o3, o4, o5, o6, o7⟩ :  w2.cell? ⟨w.heap.size, 0, none⟩ = some (.slice a1 h.words.length c1) ∧ w2.cell? ⟨w.heap.size, 1, none⟩ = some (.slice a2 h.roots.length c2) ∧ w2.cell? ⟨w.heap.size, 2, none⟩ = some (.int .i64 h.old) ∧ w2.cell? ⟨w.heap.size, 3, none⟩ = some (.int .i64 h.eden) ∧ w2.cell? ⟨w.heap.size, 4, none⟩ = some (.int .i64 h.surv) ∧ w2.cell? ⟨w.heap.size, 5, none⟩ = some (.bool h.flip) ∧ w2.cell? ⟨w.heap.size, 6, none⟩ = some (.int .i64 h.hash) ∧ w2.cell? ⟨w.heap.size, 7, none⟩ = some (.slice a3 h.kept.length c3)  := ⟨S2.c0, S2.c1, S2.c2, S2.c3, S2.c4, S2.c5, S2.c6, S2.c7⟩
    clear K S2
    go_wp2_with (go_at_call 32; refine (LI _).mono ?_; rintro e wq ⟨rfl, hq⟩; obtain rfl := hq.symm)
    exact bodyPost_ret (v := .tuple #[.agg #[.slice none 0 0, .slice none 0 0, .int .i64 0, .int .i64 0, .int .i64 0, .bool false, .int .i64 0, .slice none 0 0], .bool false]) (by simp [results, Tryz.results73, go_sem, r0, r1, r2, r3, r4, r5, r6, r7]) rfl ⟨⟨_, zero_retm AB (set_no AB)⟩, B9⟩
  have AB : setB h i x = true := by unfold setB; rw [hk, hft, decide_eq_true ⟨by omega, by omega⟩]; rfl
  rw [decide_eq_true hi] at LI
  obtain ⟨k, rfl⟩ : ∃ k : Nat, i = k := ⟨i.toNat, by omega⟩
  have hkl : k < h.roots.length := by omega
  have CP := l5Copy_any _ h _ (hv.later S2.bel) hwo hro hke
  obtain ⟨o0, o1, o2, o3, o4, o5, o6, o7⟩ :  w2.cell? ⟨w.heap.size, 0, none⟩ = some (.slice a1 h.words.length c1) ∧ w2.cell? ⟨w.heap.size, 1, none⟩ = some (.slice a2 h.roots.length c2) ∧ w2.cell? ⟨w.heap.size, 2, none⟩ = some (.int .i64 h.old) ∧ w2.cell? ⟨w.heap.size, 3, none⟩ = some (.int .i64 h.eden) ∧ w2.cell? ⟨w.heap.size, 4, none⟩ = some (.int .i64 h.surv) ∧ w2.cell? ⟨w.heap.size, 5, none⟩ = some (.bool h.flip) ∧ w2.cell? ⟨w.heap.size, 6, none⟩ = some (.int .i64 h.hash) ∧ w2.cell? ⟨w.heap.size, 7, none⟩ = some (.slice a3 h.kept.length c3)  := ⟨S2.c0, S2.c1, S2.c2, S2.c3, S2.c4, S2.c5, S2.c6, S2.c7⟩
  clear hft hi
  go_wp2_with (go_at_call 32; refine (LI _).mono ?_; rintro e wq ⟨rfl, hq⟩; obtain rfl := hq.symm)
  refine CP.mono ?_
  rintro e w3 ⟨⟨g1, d1, g2, d2, g3, d3, rfl, ⟨q1, q2, q3⟩, ⟨l0, l1, l2⟩, ⟨m1, m2, m3⟩⟩, hb3⟩
  have al := bel_one w3 (.cells #[.slice (some ⟨g1, 0, none⟩) h.words.length d1, .slice (some ⟨g2, 0, none⟩) h.roots.length d2, .int .i64 h.old, .int .i64 h.eden, .int .i64 h.surv, .bool h.flip, .int .i64 h.hash, .slice (some ⟨g3, 0, none⟩) h.kept.length d3] 30)
  have S3 := S2.later hb3
  have lt2 := S2.lt
  have ltg1 := q1.lt
  have ltg2 := q2.lt
  have ltg3 := q3.lt
  have pc := q2.cell hkl
  have pf := fun j => q2.frozen j
  generalize h.roots.getD k 0 = y at *
  clear CP S2 hb3 o0 o1 o2 o3 o4 o5 o6 o7 hv LI
  have al2 := bel_one (w3.setCell ⟨g2, k, none⟩ (.int .i64 x)) (.cells #[.slice (some ⟨g1, 0, none⟩) h.words.length d1, .slice (some ⟨g2, 0, none⟩) h.roots.length d2, .int .i64 h.old, .int .i64 h.eden, .int .i64 h.surv, .bool h.flip, .int .i64 h.hash, .slice (some ⟨g3, 0, none⟩) h.kept.length d3] 30)
  obtain ⟨fk, K4⟩ := S3.res
  have K5 := K4.setOther (a := ⟨g2, k, none⟩) (by show w.heap.size + 1 ≠ g2; omega) (.int .i64 x)
  have KX : ((w3.setCell ⟨g2, k, none⟩ (.int .i64 x)).alloc (.cells #[.slice (some ⟨g1, 0, none⟩) h.words.length d1, .slice (some ⟨g2, 0, none⟩) h.roots.length d2, .int .i64 h.old, .int .i64 h.eden, .int .i64 h.surv, .bool h.flip, .int .i64 h.hash, .slice (some ⟨g3, 0, none⟩) h.kept.length d3] 30)).rowIs (w.heap.size + 1) 30 8 fk := K5.of_block (al2.block _ K5.lt)
  have bel4 : Below w.heap.size w ((w3.setCell ⟨g2, k, none⟩ (.int .i64 x)).alloc (.cells #[.slice (some ⟨g1, 0, none⟩) h.words.length d1, .slice (some ⟨g2, 0, none⟩) h.roots.length d2, .int .i64 h.old, .int .i64 h.eden, .int .i64 h.surv, .bool h.flip, .int .i64 h.hash, .slice (some ⟨g3, 0, none⟩) h.kept.length d3] 30)) := (S3.bel.setCell (p := ⟨g2, k, none⟩) (by show w.heap.size ≤ g2; omega) (.int .i64 x)).trans (al2.mono (by have := S3.bel.size; simp; omega))
  have sz4 : ((w3.setCell ⟨g2, k, none⟩ (.int .i64 x)).alloc (.cells #[.slice (some ⟨g1, 0, none⟩) h.words.length d1, .slice (some ⟨g2, 0, none⟩) h.roots.length d2, .int .i64 h.old, .int .i64 h.eden, .int .i64 h.surv, .bool h.flip, .int .i64 h.hash, .slice (some ⟨g3, 0, none⟩) h.kept.length d3] 30)).heap.size = w3.heap.size + 1 := by simp
  have M1 := (q1.setOther (b := g2) (i := k) (by omega) (.int .i64 x)).later al2
  have M2 := (q2.set k x).later al2
  have M3 := (q3.setOther (b := g2) (i := k) (by omega) (.int .i64 x)).later al2
  have lw : w.heap.size + 1 < w3.heap.size := by omega
  have n1 : ¬ g2 = w3.heap.size := by omega
  have n1' : ¬ w3.heap.size = g2 := by omega
  have OKC : (#[.slice (some ⟨g1, 0, none⟩) h.words.length d1, .slice (some ⟨g2, 0, none⟩) h.roots.length d2, .int .i64 h.old, .int .i64 h.eden, .int .i64 h.surv, .bool h.flip, .int .i64 h.hash, .slice (some ⟨g3, 0, none⟩) h.kept.length d3] : Array Value).all (·.oneCell') = true := by simp [Value.oneCell']
  clear al al2 K4 K5 S3 q1 q2 q3
  go_wp2_with (refine store_box _ rfl (.tmp 6) (.tmp 35) 30 rfl 30 (w.heap.size + 1) 8 #[.slice (some ⟨g1, 0, none⟩) h.words.length d1, .slice (some ⟨g2, 0, none⟩) h.roots.length d2, .int .i64 h.old, .int .i64 h.eden, .int .i64 h.surv, .bool h.flip, .int .i64 h.hash, .slice (some ⟨g3, 0, none⟩) h.kept.length d3] fk rfl rfl KX rfl (by kernel_rfl) OKC ?_; intro w9 K9 G9; have r0 : w9.cell? ⟨w.heap.size + 1, 0, none⟩ = some (.slice (some ⟨g1, 0, none⟩) h.words.length d1) := K9.cell (i := 0) (by omega); have r1 : w9.cell? ⟨w.heap.size + 1, 1, none⟩ = some (.slice (some ⟨g2, 0, none⟩) h.roots.length d2) := K9.cell (i := 1) (by omega); have r2 : w9.cell? ⟨w.heap.size + 1, 2, none⟩ = some (.int .i64 h.old) := K9.cell (i := 2) (by omega); have r3 : w9.cell? ⟨w.heap.size + 1, 3, none⟩ = some (.int .i64 h.eden) := K9.cell (i := 3) (by omega); have r4 : w9.cell? ⟨w.heap.size + 1, 4, none⟩ = some (.int .i64 h.surv) := K9.cell (i := 4) (by omega); have r5 : w9.cell? ⟨w.heap.size + 1, 5, none⟩ = some (.bool h.flip) := K9.cell (i := 5) (by omega); have r6 : w9.cell? ⟨w.heap.size + 1, 6, none⟩ = some (.int .i64 h.hash) := K9.cell (i := 6) (by omega); have r7 : w9.cell? ⟨w.heap.size + 1, 7, none⟩ = some (.slice (some ⟨g3, 0, none⟩) h.kept.length d3) := K9.cell (i := 7) (by omega))
  have B9 : Below w.heap.size w w9 := Below.grown bel4 G9 (by rw [sz4]; omega) (fun k hk => by cases hk; omega)
  have HF : HM w.heap.size w9 (.agg #[.slice (some ⟨g1, 0, none⟩) h.words.length d1, .slice (some ⟨g2, 0, none⟩) h.roots.length d2, .int .i64 h.old, .int .i64 h.eden, .int .i64 h.surv, .bool h.flip, .int .i64 h.hash, .slice (some ⟨g3, 0, none⟩) h.kept.length d3]) (setC h k x) := by
    rw [set_yes AB]
    have q := HM.of_rows (h := { h with roots := h.roots.set (k : Int).toNat x }) (B := w.heap.size) (M1.grown G9 (by simp <;> omega)) (M2.grown G9 (by simp <;> omega)) (M3.grown G9 (by simp <;> omega)) m1 m2 m3 (by omega) (by omega) (by omega) (by omega) (by omega) (by omega)
    rw [show ({ h with roots := h.roots.set (k : Int).toNat x } : Hp).roots.length = h.roots.length from by simp] at q
    exact q
  exact bodyPost_ret (v := .tuple #[.agg #[.slice (some ⟨g1, 0, none⟩) h.words.length d1, .slice (some ⟨g2, 0, none⟩) h.roots.length d2, .int .i64 h.old, .int .i64 h.eden, .int .i64 h.surv, .bool h.flip, .int .i64 h.hash, .slice (some ⟨g3, 0, none⟩) h.kept.length d3], .bool true]) (by simp [results, Tryz.results73, go_sem, r0, r1, r2, r3, r4, r5, r6, r7]) rfl ⟨⟨_, by rw [AB], HF⟩, B9⟩

end Go.Proofs.YtboiknllmnfipaaGreatDoor

/- A heap being drawn: what is known on the way. -/
namespace Go.Proofs.YtboiknllmnfipaaGreatDoor
open Go.RowKit

/-- A heap with lists that are short. -/
def Sm (t : Hp) : Prop := t.words.length ≤ 3200 ∧ t.roots.length ≤ 20 ∧ t.kept.length ≤ 3200
theorem HM.off {B N : Nat} {w w' : World} {v : Value} {h : Hp} (k : HM B w v h) (hg : w.grownBy w' (some N)) (hN : N < B) : HM B w' v h :=
  k.keep (fun b hb hl => hg.block b hl (fun e => by injection e; omega))
theorem own_apart {w : World} {B e size n b m : Nat} {t : TypeId} {v : Value} {xs : List Value} {f : Nat → Value} (h : w.ownsRow B e size v n xs) (ht : e ≠ t) (hr : w.rowIs b t m f) : v.ownBlock ≠ some b := by
  intro q
  rcases h.2 with ⟨rfl, _⟩ | ⟨g, cap, cur, rfl, _, hh, _⟩
  · cases q
  · obtain rfl : g = b := Option.some.inj q
    obtain ⟨c, hc, _⟩ := hr
    rw [hh] at hc
    simp at hc
    exact ht hc.2
theorem own_box {w w' : World} {B n b m : Nat} {v : Value} {xs : List Value} {f : Nat → Value} (h : w.ownsRow B 2 1 v n xs) (hr : w.rowIs b 30 m f) (hg : w.grownBy w' (some b)) : w'.ownsRow B 2 1 v n xs := by
  have ne := own_apart h (by decide) hr
  have hlt := h.lt
  obtain ⟨hl, h⟩ := h
  refine ⟨hl, ?_⟩
  rcases h with h | ⟨g, cap, cur, rfl, hB, hh, h1⟩
  · exact .inl h
  · exact .inr ⟨g, cap, cur, rfl, hB, (hg.block g (hlt g rfl).2 (fun e => ne e)).trans hh, h1⟩
/-- A heap's box is written: its rows stay. -/
theorem HM.box {B b m : Nat} {w w' : World} {v : Value} {h : Hp} {f : Nat → Value} (k : HM B w v h) (hr : w.rowIs b 30 m f) (hg : w.grownBy w' (some b)) : HM B w' v h := by
  obtain ⟨v1, v2, v3, e, ⟨o1, o2, o3⟩, d1, d2⟩ := k.ex
  exact ⟨v1, v2, v3, e, ⟨own_box o1 hr hg, own_box o2 hr hg, own_box o3 hr hg⟩, d1, d2⟩
theorem HM.shape {B : Nat} {w : World} {v : Value} {h : Hp} (k : HM B w v h) : ∃ p1 p2 p3 e1 e2 e3, v = .agg #[.slice p1 h.words.length e1, .slice p2 h.roots.length e2, .int .i64 h.old, .int .i64 h.eden, .int .i64 h.surv, .bool h.flip, .int .i64 h.hash, .slice p3 h.kept.length e3] := by
  obtain ⟨v1, v2, v3, rfl, ⟨o1, o2, o3⟩, -, -⟩ := k.ex
  obtain ⟨p1, e1, rfl, -⟩ := IRs (IR_of_owns o1)
  obtain ⟨p2, e2, rfl, -⟩ := IRs (IR_of_owns o2)
  obtain ⟨p3, e3, rfl, -⟩ := IRs (IR_of_owns o3)
  exact ⟨p1, p2, p3, e1, e2, e3, rfl⟩
theorem Dw.drew {N : Nat} {cv : Value} {cs : List UInt8} {w : World} (h : Dw N cv cs w) : Dw N cv cs w.drew := ⟨h.br.later (Below.refl _ _).drew, h.len, h.dr.drew, h.off⟩
/-- The draw goes on, and new blocks come. -/
theorem Dw.more {N : Nat} {cv : Value} {cs : List UInt8} {w w' : World} (h : Dw N cv cs w) (hb : Below w.heap.size w w') (hN : N < w.heap.size) : Dw N cv cs w' :=
  ⟨h.br.later hb, h.len, h.dr.grown (row := none) ⟨hb.os, hb.tape, hb.output, hb.size, fun k hk _ => hb.block k hk⟩ (by simp) hN, h.off⟩

end Go.Proofs.YtboiknllmnfipaaGreatDoor

/- The draw of a heap, under way: its state. -/
namespace Go.Proofs.YtboiknllmnfipaaGreatDoor
open Go.RowKit

def hv8 (t : Hp) (p1 p2 p3 : Option Addr) (e1 e2 e3 : Nat) : Array Value := #[.slice p1 t.words.length e1, .slice p2 t.roots.length e2, .int .i64 t.old, .int .i64 t.eden, .int .i64 t.surv, .bool t.flip, .int .i64 t.hash, .slice p3 t.kept.length e3]
theorem hv8_cells {W : World} {b : Nat} {t : Hp} {p1 p2 p3 : Option Addr} {e1 e2 e3 : Nat} (k : W.rowIs b 30 8 (fun i => (hv8 t p1 p2 p3 e1 e2 e3)[i]?.getD undef)) :
    W.cell? ⟨b, 0, none⟩ = some (.slice p1 t.words.length e1) ∧ W.cell? ⟨b, 1, none⟩ = some (.slice p2 t.roots.length e2) ∧ W.cell? ⟨b, 2, none⟩ = some (.int .i64 t.old) ∧ W.cell? ⟨b, 3, none⟩ = some (.int .i64 t.eden) ∧ W.cell? ⟨b, 4, none⟩ = some (.int .i64 t.surv) ∧ W.cell? ⟨b, 5, none⟩ = some (.bool t.flip) ∧ W.cell? ⟨b, 6, none⟩ = some (.int .i64 t.hash) ∧ W.cell? ⟨b, 7, none⟩ = some (.slice p3 t.kept.length e3) :=
  ⟨k.cell (i := 0) (by omega), k.cell (i := 1) (by omega), k.cell (i := 2) (by omega), k.cell (i := 3) (by omega), k.cell (i := 4) (by omega), k.cell (i := 5) (by omega), k.cell (i := 6) (by omega), k.cell (i := 7) (by omega)⟩
/-- The block N alone is written, and the draw goes on. -/
def Sx (W : World) (N : Nat) (cv : Value) (cs : List UInt8) (w' : World) : Prop := W.grownBy w' (some N) ∧ Dw N cv cs w'
theorem Sx.refl {W : World} {N : Nat} {cv : Value} {cs : List UInt8} (d : Dw N cv cs W) : Sx W N cv cs W := ⟨World.grownBy.refl _ _, d⟩
theorem Sx.drew {W W' : World} {N : Nat} {cv : Value} {cs : List UInt8} (s : Sx W N cv cs W') : Sx W N cv cs W'.drew := ⟨gdrew s.1, s.2.drew⟩
theorem Sx.trans {W W1 W2 : World} {N : Nat} {cv : Value} {cs : List UInt8} (s : Sx W N cv cs W1) (k : Sx W1 N cv cs W2) : Sx W N cv cs W2 := ⟨gtrans s.1 k.1, k.2⟩
theorem Sx.more {W W1 W2 : World} {N : Nat} {cv : Value} {cs : List UInt8} (s : Sx W N cv cs W1) (hb : Below W1.heap.size W1 W2) (hN : N < W.heap.size) : Sx W N cv cs W2 :=
  ⟨gtrans s.1 ⟨hb.os, hb.tape, hb.output, hb.size, fun b hl _ => hb.block b hl⟩, s.2.more hb (Nat.lt_of_lt_of_le hN s.1.size)⟩
/-- A block that is new is written. -/
theorem Sx.put {W W1 W2 : World} {N b : Nat} {cv : Value} {cs : List UInt8} (d : Dw N cv cs W) (s : Sx W N cv cs W1) (g : W1.grownBy W2 (some b)) (hb : W.heap.size ≤ b) (hN : N < W.heap.size) : Sx W N cv cs W2 := by
  have q : W.grownBy W2 (some N) := gmix s.1 g (fun k e => by injection e; omega)
  exact ⟨q, Dw.grown d q s.2 g (fun e => by injection e; omega) (Nat.lt_of_lt_of_le hN s.1.size)⟩
/-- A heap being drawn: its box H, the words' row gQ. -/
structure LD (w : World) (N : Nat) (cv : Value) (cs : List UInt8) (H gQ : Nat) (W : World) (t : Hp) (p1 p2 p3 : Option Addr) (e1 e2 e3 : Nat) : Prop where
  dw : Dw N cv cs W
  d0 : Dw N cv cs w
  gr : w.grownBy W (some N)
  row : W.rowIs H 30 8 (fun i => (hv8 t p1 p2 p3 e1 e2 e3)[i]?.getD undef)
  hm : HM w.heap.size W (.agg (hv8 t p1 p2 p3 e1 e2 e3)) t
  res : ∃ f, W.rowIs w.heap.size 30 8 f
  wd : RI W gQ [0, 8, -6] 3
  hN : N < w.heap.size
  hH : w.heap.size < H
  hQ : w.heap.size ≤ gQ
  sm : Sm t
  wl : t.words.length = 3200
theorem LD.step {w : World} {N : Nat} {cv : Value} {cs : List UInt8} {H gQ : Nat} {W W' : World} {t : Hp} {p1 p2 p3 : Option Addr} {e1 e2 e3 : Nat} (k : LD w N cv cs H gQ W t p1 p2 p3 e1 e2 e3) (s : Sx W N cv cs W') : LD w N cv cs H gQ W' t p1 p2 p3 e1 e2 e3 := by
  obtain ⟨f, F⟩ := k.res
  have hN := k.hN
  have hH := k.hH
  have hQ := k.hQ
  have n1 : some H ≠ some N := fun e => by injection e; omega
  have n2 : some w.heap.size ≠ some N := fun e => by injection e; omega
  have n3 : some gQ ≠ some N := fun e => by injection e; omega
  exact ⟨s.2, k.d0, gtrans k.gr s.1, k.row.of_block (s.1.block _ k.row.lt n1), k.hm.off s.1 hN, ⟨f, F.of_block (s.1.block _ F.lt n2)⟩, k.wd.grown s.1 n3, hN, hH, hQ, k.sm, k.wl⟩
theorem LD.later {w : World} {N : Nat} {cv : Value} {cs : List UInt8} {H gQ : Nat} {W W' : World} {t : Hp} {p1 p2 p3 : Option Addr} {e1 e2 e3 : Nat} (k : LD w N cv cs H gQ W t p1 p2 p3 e1 e2 e3) (hb : Below W.heap.size W W') : LD w N cv cs H gQ W' t p1 p2 p3 e1 e2 e3 :=
  k.step ((Sx.refl k.dw).more hb (Nat.lt_of_lt_of_le k.hN k.gr.size))
/-- Another heap's box. -/
structure XB (w W : World) (b : Nat) (t : Hp) (p1 p2 p3 : Option Addr) (e1 e2 e3 : Nat) : Prop where
  row : W.rowIs b 30 8 (fun i => (hv8 t p1 p2 p3 e1 e2 e3)[i]?.getD undef)
  hm : HM w.heap.size W (.agg (hv8 t p1 p2 p3 e1 e2 e3)) t
  sm : Sm t
  lt : w.heap.size < b
theorem XB.step {w W W' : World} {N b : Nat} {cv : Value} {cs : List UInt8} {t : Hp} {p1 p2 p3 : Option Addr} {e1 e2 e3 : Nat} (k : XB w W b t p1 p2 p3 e1 e2 e3) (s : Sx W N cv cs W') (hN : N < w.heap.size) : XB w W' b t p1 p2 p3 e1 e2 e3 := by
  have lt := k.lt
  exact ⟨k.row.of_block (s.1.block _ k.row.lt (fun e => by injection e; omega)), k.hm.off s.1 hN, k.sm, lt⟩
/-- The heap is another one. -/
theorem LD.take {w : World} {N : Nat} {cv : Value} {cs : List UInt8} {H gQ : Nat} {W W' : World} {t t' : Hp} {p1 p2 p3 : Option Addr} {e1 e2 e3 : Nat} {q1 q2 q3 : Option Addr} {f1 f2 f3 : Nat} (k : LD w N cv cs H gQ W t p1 p2 p3 e1 e2 e3) (hx : HM w.heap.size W (.agg (hv8 t' q1 q2 q3 f1 f2 f3)) t') (sx : Sm t') (wx : t'.words.length = 3200) (g : W.grownBy W' (some H)) (r : W'.rowIs H 30 8 (fun i => (hv8 t' q1 q2 q3 f1 f2 f3)[i]?.getD undef)) : LD w N cv cs H gQ W' t' q1 q2 q3 f1 f2 f3 := by
  obtain ⟨f, F⟩ := k.res
  have hN := k.hN
  have hH := k.hH
  have n2 : some w.heap.size ≠ some H := fun e => by injection e; omega
  have nQ : some gQ ≠ some H := fun e => by
    injection e with e
    subst e
    obtain ⟨ff, ⟨c, hc, _⟩, _⟩ := k.wd
    obtain ⟨c', hc', _⟩ := k.row
    rw [hc] at hc'
    simp at hc'
  have G : w.grownBy W' (some N) := gmix k.gr g (fun b e => by injection e; omega)
  exact ⟨Dw.grown k.d0 G k.dw g (fun e => by injection e; omega) (Nat.lt_of_lt_of_le hN k.gr.size), k.d0, G, r, hx.box k.row g, ⟨f, F.of_block (g.block _ F.lt n2)⟩, k.wd.grown g nQ, hN, hH, k.hQ, sx, wx⟩

/-- Where eden ends, as the box tells. -/
def edOf (H : Nat) (w : World) : Nat := match w.cell? ⟨H, 3, none⟩ with
  | some (.int _ e) => e.toNat
  | _ => 0
theorem edOf_eq {H : Nat} {w : World} {e : Int} (h : w.cell? ⟨H, 3, none⟩ = some (.int .i64 e)) : edOf H w = e.toNat := by
  unfold edOf
  rw [h]
/-- What the draw of a heap leaves. -/
def DrawnH (w : World) (N : Nat) (cv : Value) (cs : List UInt8) (x : Ending) (w' : World) : Prop := (∃ u t, x = .returned u ∧ HM w.heap.size w' u t ∧ Sm t ∧ t.words.length = 3200) ∧ w.grownBy w' (some N) ∧ Dw N cv cs w'
theorem LD.done {w : World} {N : Nat} {cv : Value} {cs : List UInt8} {H gQ : Nat} {W W' : World} {t : Hp} {p1 p2 p3 : Option Addr} {e1 e2 e3 : Nat} (k : LD w N cv cs H gQ W t p1 p2 p3 e1 e2 e3) (g : W.grownBy W' (some w.heap.size)) : DrawnH w N cv cs (.returned (.agg (hv8 t p1 p2 p3 e1 e2 e3))) W' := by
  obtain ⟨f, F⟩ := k.res
  have hN := k.hN
  have G : w.grownBy W' (some N) := gmix k.gr g (fun b e => by injection e; omega)
  exact ⟨⟨_, t, rfl, k.hm.box F g, k.sm, k.wl⟩, G, Dw.grown k.d0 G k.dw g (fun e => by injection e; omega) (Nat.lt_of_lt_of_le hN k.gr.size)⟩

end Go.Proofs.YtboiknllmnfipaaGreatDoor

/- A graph being drawn: its state, and what it is behind one change. -/
namespace Go.Proofs.YtboiknllmnfipaaGreatDoor
open Go.RowKit

def LowG (B : Nat) (v : Value) : Prop := ∀ a n c, v = .slice (some a) n c → 0 < n → B ≤ a.block
theorem own_lowG {w : World} {B e size m : Nat} {v : Value} {xs : List Value} (h : w.ownsRow B e size v m xs) : LowG B v := by
  intro a n c e _
  rcases h.2 with ⟨rfl, _⟩ | ⟨g, cap, cur, rfl, hB, _⟩
  · cases e
  · simp only [Value.slice.injEq, Option.some.injEq] at e
    obtain ⟨rfl, _⟩ := e
    exact hB
theorem IR.keepG {w w' : World} {B : Nat} {v : Value} {l : List Int} (h : IR w v l) (hl : LowG B v) (q : ∀ b, B ≤ b → b < w.heap.size → w'.heap[b]? = w.heap[b]?) : IR w' v l := by
  obtain ⟨ao, cap, rfl, hle, h⟩ := h
  refine ⟨ao, cap, rfl, hle, fun i hi => ?_⟩
  obtain ⟨b, o, rfl, hc⟩ := h i hi
  have q' := q b (hl _ _ _ rfl (by omega)) (World.block_lt_of_cell? _ _ hc)
  exact ⟨b, o, rfl, (World.cell?_of_block (w := w) (a := ⟨b, o + i, none⟩) q').trans hc⟩
theorem LowG.down {B C : Nat} {v : Value} (h : LowG B v) (hC : C ≤ B) : LowG C v := fun a n c e q => Nat.le_trans hC (h a n c e q)
/-- The graph that is read, and that lies from the block B on. -/
def GAt (B : Nat) (w : World) (v : Value) (g : Gr) : Prop := ∃ rv nv, v = .agg #[rv, nv, .int .i64 g.hash] ∧ IR w rv g.roots ∧ LowG B rv ∧
  ((g.nodes = [] ∧ ∃ a c, nv = .slice a 0 c) ∨ ∃ nb nc fv, nv = .slice (some ⟨nb, 0, none⟩) g.nodes.length nc ∧ NB w nb g.nodes fv ∧ B ≤ nb ∧ (∀ i, i < g.nodes.length → LowG B (fv i)) ∧ g.nodes.length ≤ nc)
theorem GAt.gr {B : Nat} {w : World} {v : Value} {g : Gr} (h : GAt B w v g) : GR w v g := by
  obtain ⟨rv, nv, e, ir, _, ⟨e0, a, c, rfl⟩ | ⟨nb, nc, fv, rfl, hb, _, _, hc⟩⟩ := h
  · refine ⟨rv, _, e, ir, ?_⟩
    rw [e0]
    exact ⟨a, c, rfl, Nat.zero_le _, fun i hi => by simp at hi⟩
  · exact ⟨rv, _, e, ir, hb.nr hc⟩
theorem GAt.keep {B : Nat} {w w1 : World} {v : Value} {g : Gr} (h : GAt B w v g) (k : ∀ b, B ≤ b → b < w.heap.size → w1.heap[b]? = w.heap[b]?) : GAt B w1 v g := by
  obtain ⟨rv, nv, e, ir, lr, h⟩ := h
  refine ⟨rv, nv, e, ir.keepG lr k, lr, ?_⟩
  rcases h with h | ⟨nb, nc, fv, e1, hb, hB, lf, hc⟩
  · exact .inl h
  · obtain ⟨M, f, R, r⟩ := hb.row
    exact .inr ⟨nb, nc, fv, e1, ⟨⟨M, f, R.of_block (k nb hB R.lt), r⟩, fun i hi => (hb.fl i hi).keepG (lf i hi) k⟩, hB, lf, hc⟩
theorem GAt.down {B C : Nat} {w : World} {v : Value} {g : Gr} (h : GAt B w v g) (hC : C ≤ B) : GAt C w v g := by
  obtain ⟨rv, nv, e, ir, lr, h⟩ := h
  refine ⟨rv, nv, e, ir, lr.down hC, ?_⟩
  rcases h with h | ⟨nb, nc, fv, e1, hb, hB, lf, hc⟩
  · exact .inl h
  · exact .inr ⟨nb, nc, fv, e1, hb, Nat.le_trans hC hB, fun i hi => (lf i hi).down hC, hc⟩
theorem GAt.later {B : Nat} {w w1 : World} {v : Value} {g : Gr} (h : GAt B w v g) (hb : Below w.heap.size w w1) : GAt B w1 v g := h.keep (fun b _ h2 => hb.block b h2)
theorem GAt.off {B N : Nat} {w w1 : World} {v : Value} {g : Gr} (h : GAt B w v g) (hg : w.grownBy w1 (some N)) (hN : N < B) : GAt B w1 v g := h.keep (fun b h1 h2 => hg.block b h2 (fun e => by have := Option.some.inj e; omega))
theorem GAt.of {B nb nc : Nat} {w : World} {rv : Value} {hh : Int} {rl : List Int} {ns : List Nd} {fv : Nat → Value} (hr : IR w rv rl) (lr : LowG B rv) (hn : NB w nb ns fv) (hB : B ≤ nb) (lf : ∀ i, i < ns.length → LowG B (fv i)) (hc : ns.length ≤ nc) : GAt B w (.agg #[rv, .slice (some ⟨nb, 0, none⟩) ns.length nc, .int .i64 hh]) ⟨rl, ns, hh⟩ :=
  ⟨_, _, rfl, hr, lr, .inr ⟨nb, nc, fv, rfl, hn, hB, lf, hc⟩⟩
theorem GAt.of0 {B nc : Nat} {w : World} {rv : Value} {a : Option Addr} {hh : Int} {rl : List Int} (hr : IR w rv rl) (lr : LowG B rv) : GAt B w (.agg #[rv, .slice a 0 nc, .int .i64 hh]) ⟨rl, [], hh⟩ :=
  ⟨_, _, rfl, hr, lr, .inl ⟨rfl, _, _, rfl⟩⟩

def R64 (l : List Int) : Prop := ∀ x, x ∈ l → g64 x
/-- Few roots, few nodes, numbers of 64 bits. -/
def Gsm (g : Gr) : Prop := g.roots.length ≤ 1000 ∧ g.nodes.length ≤ 10000 ∧ ns64 g.nodes
/-- What a draw of a graph answers. -/
def DrawnG (w : World) (N : Nat) (cv : Value) (cs : List UInt8) (x : Ending) (w' : World) : Prop := (∃ v g, x = .returned v ∧ GAt w.heap.size w' v g ∧ Gsm g ∧ R64 g.roots) ∧ w.grownBy w' (some N) ∧ Dw N cv cs w'

/-- The graph is in its box H, as it will be answered. -/
structure GF (w : World) (N : Nat) (cv : Value) (cs : List UInt8) (H : Nat) (W : World) (rv nv : Value) (hh : Int) : Prop where
  dw : Dw N cv cs W
  d0 : Dw N cv cs w
  gr : w.grownBy W (some N)
  box : W.rowIs H 27 3 (grF rv nv hh)
  res : ∃ f, W.rowIs w.heap.size 27 3 f
  hN : N < w.heap.size
  hH : w.heap.size < H
  ex : ∃ g, GAt (w.heap.size + 1) W (.agg #[rv, nv, .int .i64 hh]) g ∧ Gsm g ∧ R64 g.roots
theorem GF.done {w : World} {N : Nat} {cv : Value} {cs : List UInt8} {H : Nat} {W W' : World} {rv nv : Value} {hh : Int} (k : GF w N cv cs H W rv nv hh) (g : W.grownBy W' (some w.heap.size)) : DrawnG w N cv cs (.returned (.agg #[rv, nv, .int .i64 hh])) W' := by
  have hN := k.hN
  obtain ⟨gg, ga, sm⟩ := k.ex
  have G : w.grownBy W' (some N) := gmix k.gr g (fun b e => by injection e; omega)
  exact ⟨⟨_, gg, rfl, (ga.off g (Nat.lt_succ_self _)).down (Nat.le_succ _), sm⟩, G, Dw.grown k.d0 G k.dw g (fun e => by injection e; omega) (Nat.lt_of_lt_of_le hN k.gr.size)⟩

/-- The graph that was drawn first: its rows are owned. -/
structure GP (w : World) (N : Nat) (cv : Value) (cs : List UInt8) (H : Nat) (W : World) (rv nv : Value) (g : Gr) (fv : Nat → Value) : Prop where
  dw : Dw N cv cs W
  d0 : Dw N cv cs w
  gr : w.grownBy W (some N)
  box : W.rowIs H 27 3 (grF rv nv g.hash)
  res : ∃ f, W.rowIs w.heap.size 27 3 f
  hN : N < w.heap.size
  hH : w.heap.size < H
  rt : W.ownsRow (w.heap.size + 1) 2 1 rv g.roots.length (icells g.roots)
  nd : NOwn (w.heap.size + 1) W nv g.nodes fv
  ap : ∀ i, i < g.nodes.length → ∀ b, rv.ownBlock = some b → (fv i).ownBlock ≠ some b
  sm : g.roots.length ≤ 20 ∧ g.nodes.length ≤ 3200 ∧ ns64 g.nodes ∧ (∀ n, n ∈ g.nodes → n.fl.length ≤ 1000)
  r6 : R64 g.roots
theorem GP.mv {w : World} {N : Nat} {cv : Value} {cs : List UInt8} {H : Nat} {W W' : World} {rv nv : Value} {g : Gr} {fv : Nat → Value} (k : GP w N cv cs H W rv nv g fv) (d : Dw N cv cs W') (gw' : w.grownBy W' (some N)) {S : Nat → Prop} (q : Grew W W' S) (hS : ∀ b, S b → b < w.heap.size) : GP w N cv cs H W' rv nv g fv := by
  obtain ⟨f, R⟩ := k.res
  have hH := k.hH
  exact ⟨d, k.d0, gw', q.row k.box (fun e => by have := hS _ e; omega), ⟨f, q.row R (fun e => by have := hS _ e; omega)⟩, k.hN, hH, q.own k.rt (fun b e s => by have := (k.rt.lt b e).1; have := hS b s; omega), q.nown k.nd (fun b s => by have := hS b s; omega), k.ap, k.sm, k.r6⟩
theorem GP.step {w : World} {N : Nat} {cv : Value} {cs : List UInt8} {H : Nat} {W W' : World} {rv nv : Value} {g : Gr} {fv : Nat → Value} (k : GP w N cv cs H W rv nv g fv) (s : Sx W N cv cs W') : GP w N cv cs H W' rv nv g fv :=
  k.mv s.2 (gtrans k.gr s.1) (Grew.grown s.1) (fun b e => by have := Option.some.inj e; have := k.hN; omega)
theorem GP.later {w : World} {N : Nat} {cv : Value} {cs : List UInt8} {H : Nat} {W W' : World} {rv nv : Value} {g : Gr} {fv : Nat → Value} (k : GP w N cv cs H W rv nv g fv) (hb : Below W.heap.size W W') : GP w N cv cs H W' rv nv g fv := by
  have hN := k.hN
  have hs := k.gr.size
  exact k.mv (k.dw.more hb (by omega)) (gtrans k.gr ⟨hb.os, hb.tape, hb.output, hb.size, fun b h1 _ => hb.block b h1⟩) (Grew.new hb (fun _ => False)) (fun b q => q.elim)
theorem GP.gat {w : World} {N : Nat} {cv : Value} {cs : List UInt8} {H : Nat} {W : World} {rv nv : Value} {g : Gr} {fv : Nat → Value} (k : GP w N cv cs H W rv nv g fv) (hh : Int) : GAt (w.heap.size + 1) W (.agg #[rv, nv, .int .i64 hh]) ⟨g.roots, g.nodes, hh⟩ := by
  obtain ⟨xs, ho, ht, hf, ha⟩ := k.nd
  rcases ho.2 with ⟨rfl, e⟩ | ⟨nb, cap, cur, rfl, hB, r⟩
  · have e2 : g.nodes = [] := List.eq_nil_of_length_eq_zero e
    rw [e2]
    exact GAt.of0 (IR_of_owns k.rt) (own_lowG k.rt)
  · obtain ⟨hb, hc, hB', -⟩ := NOwn.nb ⟨xs, ho, ht, hf, ha⟩
    exact GAt.of (IR_of_owns k.rt) (own_lowG k.rt) hb hB' (fun i hi => own_lowG (hf i hi)) hc
theorem GP.small {w : World} {N : Nat} {cv : Value} {cs : List UInt8} {H : Nat} {W : World} {rv nv : Value} {g : Gr} {fv : Nat → Value} (k : GP w N cv cs H W rv nv g fv) (hh : Int) : Gsm ⟨g.roots, g.nodes, hh⟩ := by
  obtain ⟨a, b, c, _⟩ := k.sm
  exact ⟨by show g.roots.length ≤ 1000; omega, by show g.nodes.length ≤ 10000; omega, c⟩
theorem GP.gf {w : World} {N : Nat} {cv : Value} {cs : List UInt8} {H : Nat} {W : World} {rv nv : Value} {g : Gr} {fv : Nat → Value} (k : GP w N cv cs H W rv nv g fv) : GF w N cv cs H W rv nv g.hash :=
  ⟨k.dw, k.d0, k.gr, k.box, k.res, k.hN, k.hH, _, k.gat g.hash, k.small g.hash, k.r6⟩
theorem box_ne {w : World} {H t m B e s n : Nat} {f : Nat → Value} {v : Value} {xs : List Value} (h : w.rowIs H t m f) (ho : w.ownsRow B e s v n xs) (ne : t ≠ e) : v.ownBlock ≠ some H := by
  intro k
  obtain ⟨c, hc, _⟩ := h
  rcases ho.2 with ⟨rfl, _⟩ | ⟨g, cap, cur, rfl, _, hh, _⟩
  · simp [Value.ownBlock] at k
  · simp [Value.ownBlock] at k
    subst k
    rw [hc] at hh
    simp at hh
    exact ne hh.2
/-- Another number for the next hash. -/
theorem GP.hash {w : World} {N : Nat} {cv : Value} {cs : List UInt8} {H : Nat} {W : World} {rv nv : Value} {g : Gr} {fv : Nat → Value} (k : GP w N cv cs H W rv nv g fv) (x : Int) : GF w N cv cs H (W.setCell ⟨H, 2, none⟩ (.int .i64 x)) rv nv x := by
  have hN := k.hN
  have hH := k.hH
  have G := Disk.grown_set W H 2 (.int .i64 x)
  obtain ⟨f, R⟩ := k.res
  have G2 : w.grownBy (W.setCell ⟨H, 2, none⟩ (.int .i64 x)) (some N) := gmix k.gr G (fun b e => by injection e; omega)
  have hs := k.gr.size
  have nH : ∀ (v : Value) (n : Nat) (ys : List Value), W.ownsRow (w.heap.size + 1) 2 1 v n ys → (W.setCell ⟨H, 2, none⟩ (.int .i64 x)).ownsRow (w.heap.size + 1) 2 1 v n ys := fun v n ys h => (Grew.set W H 2 _).own h (fun b e s => box_ne k.box h (by decide) (by rw [e, s]))
  obtain ⟨xs, ho, ht, hf, ha⟩ := k.nd
  have nd' : NOwn (w.heap.size + 1) (W.setCell ⟨H, 2, none⟩ (.int .i64 x)) nv g.nodes fv := ⟨xs, (Grew.set W H 2 _).own ho (fun b e s => box_ne k.box ho (by decide) (by rw [e, s])), ht, fun i hi => nH _ _ _ (hf i hi), ha⟩
  have bx : (W.setCell ⟨H, 2, none⟩ (.int .i64 x)).rowIs H 27 3 (grF rv nv x) := (k.box.set 2 (.int .i64 x)).congr fun i hi => by
    match i, hi with
    | 0, _ => rfl
    | 1, _ => rfl
    | 2, _ => rfl
  have kk : GP w N cv cs H (W.setCell ⟨H, 2, none⟩ (.int .i64 x)) rv nv ⟨g.roots, g.nodes, x⟩ fv → GF w N cv cs H (W.setCell ⟨H, 2, none⟩ (.int .i64 x)) rv nv x := fun q => q.gf
  have d2 : Dw N cv cs (W.setCell ⟨H, 2, none⟩ (.int .i64 x)) := Dw.grown k.d0 G2 k.dw G (fun e => by injection e; omega) (by omega)
  obtain ⟨r0, r1⟩ : (∃ f', (W.setCell ⟨H, 2, none⟩ (.int .i64 x)).rowIs w.heap.size 27 3 f') ∧ True := ⟨⟨f, R.setOther (a := ⟨H, 2, none⟩) (by show w.heap.size ≠ H; omega) _⟩, trivial⟩
  refine ⟨d2, k.d0, G2, bx, r0, hN, hH, ⟨g.roots, g.nodes, x⟩, ?_, k.small x, k.r6⟩
  rcases ho.2 with ⟨rfl, e⟩ | ⟨nb, cap, cur, rfl, hB, r⟩
  · have e2 : g.nodes = [] := List.eq_nil_of_length_eq_zero e
    rw [e2]
    exact GAt.of0 (IR_of_owns (nH _ _ _ k.rt)) (own_lowG k.rt)
  · obtain ⟨hb, hc, hB', -⟩ := NOwn.nb nd'
    exact GAt.of (IR_of_owns (nH _ _ _ k.rt)) (own_lowG k.rt) hb hB' (fun i hi => own_lowG (hf i hi)) hc

end Go.Proofs.YtboiknllmnfipaaGreatDoor

/- A graph being drawn: one more root, one more node, another class, one more field, two nodes exchanged. -/
namespace Go.Proofs.YtboiknllmnfipaaGreatDoor
open Go.RowKit

/-- What stays through a write beyond the answer's box. -/
structure GB (w : World) (N : Nat) (cv : Value) (cs : List UInt8) (W : World) : Prop where
  dw : Dw N cv cs W
  d0 : Dw N cv cs w
  gr : w.grownBy W (some N)
  res : ∃ f, W.rowIs w.heap.size 27 3 f
  hN : N < w.heap.size
theorem GP.gb {w : World} {N : Nat} {cv : Value} {cs : List UInt8} {H : Nat} {W : World} {rv nv : Value} {g : Gr} {fv : Nat → Value} (k : GP w N cv cs H W rv nv g fv) : GB w N cv cs W := ⟨k.dw, k.d0, k.gr, k.res, k.hN⟩
theorem GB.step {w : World} {N : Nat} {cv : Value} {cs : List UInt8} {W W' : World} {r : Option Nat} (k : GB w N cv cs W) (g : W.grownBy W' r) (hr : ∀ b, r = some b → w.heap.size < b) : GB w N cv cs W' := by
  have hN := k.hN
  have hs := k.gr.size
  obtain ⟨f, R⟩ := k.res
  have G : w.grownBy W' (some N) := gmix k.gr g (fun b e => Nat.le_of_lt (hr b e))
  exact ⟨Dw.grown k.d0 G k.dw g (fun e => by have := hr N e.symm; omega) (by omega), k.d0, G, ⟨f, R.of_block (g.block _ R.lt (fun e => by have := hr _ e.symm; omega))⟩, hN⟩
theorem GB.set {w : World} {N : Nat} {cv : Value} {cs : List UInt8} {W : World} (k : GB w N cv cs W) (b i : Nat) (v : Value) (hb : w.heap.size < b) : GB w N cv cs (W.setCell ⟨b, i, none⟩ v) := k.step (Disk.grown_set W b i v) (fun q e => by injection e; omega)
theorem GB.gf {w : World} {N : Nat} {cv : Value} {cs : List UInt8} {H : Nat} {W : World} {rv nv : Value} {hh : Int} {g : Gr} (k : GB w N cv cs W) (box : W.rowIs H 27 3 (grF rv nv hh)) (hH : w.heap.size < H) (ga : GAt (w.heap.size + 1) W (.agg #[rv, nv, .int .i64 hh]) g) (sm : Gsm g) (r6 : R64 g.roots) : GF w N cv cs H W rv nv hh :=
  ⟨k.dw, k.d0, k.gr, box, k.res, k.hN, hH, g, ga, sm, r6⟩
theorem NB.keep {w w' : World} {nb : Nat} {ns : List Nd} {fv : Nat → Value} {S : Nat → Prop} (h : NB w nb ns fv) (q : Grew w w' S) (h1 : ¬ S nb) (h2 : ∀ i, i < ns.length → ∀ b, inB (fv i) b → ¬ S b) : NB w' nb ns fv := by
  obtain ⟨M, f, R, r⟩ := h.row
  exact ⟨⟨M, f, q.row R h1, r⟩, fun i hi => q.ir (h.fl i hi) (h2 i hi)⟩
theorem grF_set0 {w : World} {H t : Nat} {rv nv u : Value} {hh : Int} (h : w.rowIs H t 3 (grF rv nv hh)) : (w.setCell ⟨H, 0, none⟩ u).rowIs H t 3 (grF u nv hh) := gr_set0 h u
theorem grF_set1 {w : World} {H t : Nat} {rv nv u : Value} {hh : Int} (h : w.rowIs H t 3 (grF rv nv hh)) : (w.setCell ⟨H, 1, none⟩ u).rowIs H t 3 (grF rv u hh) := gr_set1 h u

/-- One more root. -/
theorem GP.root {w : World} {N : Nat} {cv : Value} {cs : List UInt8} {H : Nat} {W W' : World} {rv rv1 nv : Value} {g : Gr} {fv : Nat → Value} {x : Int} (k : GP w N cv cs H W rv nv g fv) (hx : g64 x) (ho : W'.ownsRow (w.heap.size + 1) 2 1 rv1 (g.roots.length + 1) (icells g.roots ++ [.int .i64 x])) (gg : W.grownBy W' rv.ownBlock) :
    GF w N cv cs H (W'.setCell ⟨H, 0, none⟩ rv1) rv1 nv g.hash := by
  have hH := k.hH
  have G1 := Grew.grown gg
  have G2 := Grew.set W' H 0 rv1
  have bx1 := G1.row k.box (fun e => box_ne k.box k.rt (by decide) e)
  have B2 := (k.gb.step gg (fun b e => (k.rt.lt b e).1)).set H 0 rv1 hH
  have ho2 : (W'.setCell ⟨H, 0, none⟩ rv1).ownsRow (w.heap.size + 1) 2 1 rv1 (g.roots ++ [x]).length (icells (g.roots ++ [x])) := by
    have q := G2.own ho (fun b e s => box_ne bx1 ho (by decide) (by rw [e, s]))
    simpa [icells] using q
  obtain ⟨xs, hn, ht, hf, ha⟩ := k.nd
  refine B2.gf (g := ⟨g.roots ++ [x], g.nodes, g.hash⟩) (grF_set0 bx1) hH ?_ ⟨by show (g.roots ++ [x]).length ≤ 1000; have := k.sm.1; simp; omega, by have := k.sm.2.1; show g.nodes.length ≤ 10000; omega, k.sm.2.2.1⟩ (fun y hy => by
    rcases List.mem_append.1 (show y ∈ g.roots ++ [x] from hy) with z | z
    · exact k.r6 y z
    · rw [List.mem_singleton] at z; rw [z]; exact hx)
  rcases hn.2 with ⟨rfl, e⟩ | ⟨nb, cap, cur, rfl, hB, r⟩
  · have e2 : g.nodes = [] := List.eq_nil_of_length_eq_zero e
    rw [e2]
    exact GAt.of0 (IR_of_owns ho2) (own_lowG ho2)
  · obtain ⟨hb, hc, hB', hd⟩ := NOwn.nb ⟨xs, hn, ht, hf, ha⟩
    have hb1 := hb.keep G1 (fun e => type_ne k.rt hn (by decide) e rfl) (fun i hi b q e => k.ap i hi b e (inB_own (hf i hi) q))
    have hb2 := hb1.keep G2 (fun e => box_ne bx1 (G1.own hn (fun b e1 e2 => type_ne k.rt hn (by decide) e2 e1)) (by decide) (by rw [← e]; rfl)) (fun i hi b q e => box_ne k.box (hf i hi) (by decide) (by rw [inB_own (hf i hi) q, e]))
    exact GAt.of (IR_of_owns ho2) (own_lowG ho2) hb2 hB' (fun i hi => own_lowG (hf i hi)) hc

/-- One more node, without fields. -/
theorem GP.node {w : World} {N : Nat} {cv : Value} {cs : List UInt8} {H : Nat} {W W' : World} {rv nv nv1 : Value} {g : Gr} {fv : Nat → Value} {xs : List Value} {y z : Int} (k : GP w N cv cs H W rv nv g fv) (hx : W.ownsRow (w.heap.size + 1) 41 3 nv g.nodes.length xs) (ht : Trip xs g.nodes fv)
    (ho : W'.ownsRow (w.heap.size + 1) 41 3 nv1 (g.nodes.length + 1) (xs ++ [.int .i64 y, .int .i64 z, .slice none 0 0])) (gg : W.grownBy W' nv.ownBlock) (hy : g64 y) (hz : g64 z) :
    GF w N cv cs H (W'.setCell ⟨H, 1, none⟩ nv1) rv nv1 g.hash := by
  have hH := k.hH
  have G1 := Grew.grown gg
  have G2 := Grew.set W' H 1 nv1
  have bx1 := G1.row k.box (fun e => box_ne k.box hx (by decide) e)
  have B2 := (k.gb.step gg (fun b e => (hx.lt b e).1)).set H 1 nv1 hH
  obtain ⟨xs2, hn, _, hf0, ha⟩ := k.nd
  have hf : ∀ i, i < g.nodes.length → W.ownsRow (w.heap.size + 1) 2 1 (fv i) (g.nodes.getD i nd0).fl.length (icells (g.nodes.getD i nd0).fl) := hf0
  have rt2 : (W'.setCell ⟨H, 1, none⟩ nv1).ownsRow (w.heap.size + 1) 2 1 rv g.roots.length (icells g.roots) := G2.own (G1.own k.rt (fun b e s => type_ne k.rt hx (by decide) e s)) (fun b e s => box_ne k.box k.rt (by decide) (by rw [e, s]))
  have ho2 : (W'.setCell ⟨H, 1, none⟩ nv1).ownsRow (w.heap.size + 1) 41 3 nv1 (g.nodes ++ [(⟨y, z, []⟩ : Nd)]).length (xs ++ [.int .i64 y, .int .i64 z, .slice none 0 0]) := by
    have q := G2.own ho (fun b e s => box_ne bx1 ho (by decide) (by rw [e, s]))
    simpa using q
  have nd2 : NOwn (w.heap.size + 1) (W'.setCell ⟨H, 1, none⟩ nv1) nv1 (g.nodes ++ [⟨y, z, []⟩]) (fun i => if i = g.nodes.length then .slice none 0 0 else fv i) := by
    refine ⟨_, ho2, ht.snoc y z [] (.slice none 0 0), fun i hi => ?_, fun i j hi hj hij b q => ?_⟩
    · have hi' : i < g.nodes.length + 1 := by simpa using hi
      dsimp only
      by_cases e : i = g.nodes.length
      · subst e
        have e2 : (g.nodes ++ [(⟨y, z, []⟩ : Nd)]).getD g.nodes.length nd0 = ⟨y, z, []⟩ := by simp
        rw [if_pos rfl, e2]
        exact World.ownsRow_nil _ _ _ _
      · have hlt : i < g.nodes.length := by omega
        have eg : (g.nodes ++ [(⟨y, z, []⟩ : Nd)]).getD i nd0 = g.nodes.getD i nd0 := by simp [List.getD_eq_getElem?_getD, List.getElem?_append_left hlt]
        rw [if_neg e, eg]
        exact G2.own (G1.own (hf i hlt) (fun b e s => type_ne (hf i hlt) hx (by decide) e s)) (fun b e s => box_ne k.box (hf i hlt) (by decide) (by rw [e, s]))
    · have hi' : i < g.nodes.length + 1 := by simpa using hi
      have hj' : j < g.nodes.length + 1 := by simpa using hj
      dsimp only at q ⊢
      by_cases q1 : i = g.nodes.length
      · rw [if_pos q1] at q
        simp [Value.ownBlock] at q
      · rw [if_neg q1] at q
        by_cases q2 : j = g.nodes.length
        · rw [if_pos q2]
          simp [Value.ownBlock]
        · rw [if_neg q2]
          exact ha i j (by omega) (by omega) hij b q
  have SM : Gsm ⟨g.roots, g.nodes ++ [⟨y, z, []⟩], g.hash⟩ := by
    refine ⟨by have := k.sm.1; show g.roots.length ≤ 1000; omega, by have := k.sm.2.1; show (g.nodes ++ [(⟨y, z, []⟩ : Nd)]).length ≤ 10000; simp; omega, fun n hn => ?_⟩
    have hn' : n ∈ g.nodes ++ [(⟨y, z, []⟩ : Nd)] := hn
    rw [List.mem_append, List.mem_singleton] at hn'
    rcases hn' with q | rfl
    · exact k.sm.2.2.1 n q
    · exact ⟨⟨hy, hz, fun x hx => by simp at hx⟩, by simp⟩
  refine B2.gf (grF_set1 bx1) hH ?_ SM k.r6
  rcases ho.2 with ⟨_, e⟩ | ⟨nb, cap, cur, rfl, hB, r⟩
  · omega
  · have q : NOwn (w.heap.size + 1) (W'.setCell ⟨H, 1, none⟩ (.slice (some ⟨nb, 0, none⟩) (g.nodes.length + 1) cap)) (.slice (some ⟨nb, 0, none⟩) (g.nodes ++ [(⟨y, z, []⟩ : Nd)]).length cap) (g.nodes ++ [⟨y, z, []⟩]) (fun i => if i = g.nodes.length then .slice none 0 0 else fv i) := by
      have e : (g.nodes ++ [(⟨y, z, []⟩ : Nd)]).length = g.nodes.length + 1 := by simp
      rw [e]
      exact nd2
    obtain ⟨hb, hc, hB', -⟩ := NOwn.nb q
    have := GAt.of (B := w.heap.size + 1) (hh := g.hash) (IR_of_owns rt2) (own_lowG rt2) hb hB' (fun i hi => by obtain ⟨_, _, _, hf2, _⟩ := nd2; exact own_lowG (hf2 i hi)) hc
    rw [show (g.nodes ++ [(⟨y, z, []⟩ : Nd)]).length = g.nodes.length + 1 from by simp] at this
    exact this
/-- Another class for one node. -/
theorem GP.cls {w : World} {N : Nat} {cv : Value} {cs : List UInt8} {H nb nc : Nat} {W : World} {rv : Value} {g : Gr} {fv : Nat → Value} {i : Nat} {x : Int} (k : GP w N cv cs H W rv (.slice (some ⟨nb, 0, none⟩) g.nodes.length nc) g fv) (hi : i < g.nodes.length) (hx : g64 x) :
    GF w N cv cs H (W.setCell ⟨nb, i * 3, none⟩ (.int .i64 x)) rv (.slice (some ⟨nb, 0, none⟩) g.nodes.length nc) g.hash := by
  have hH := k.hH
  obtain ⟨xs, hn, ht, hf, ha⟩ := k.nd
  obtain ⟨hb, hc, hB, hd⟩ := NOwn.nb k.nd
  have G := Grew.set W nb (i * 3) (.int .i64 x)
  have B2 := k.gb.set nb (i * 3) (.int .i64 x) hB
  have nbH : nb ≠ H := fun e => box_ne k.box hn (by decide) (by rw [e]; rfl)
  have rt2 := G.own k.rt (fun b e s => type_ne k.rt hn (by decide) e (by rw [s]; rfl))
  obtain ⟨M, f, R, hM, q⟩ := hb.row
  have hb2 : NB (W.setCell ⟨nb, i * 3, none⟩ (.int .i64 x)) nb (g.nodes.set i { g.nodes.getD i nd0 with cls := x }) fv := by
    refine ⟨⟨M, _, R.set (i * 3) (.int .i64 x), by rw [List.length_set]; exact hM, fun j hj => ?_⟩, fun j hj => ?_⟩
    · rw [List.length_set] at hj
      have q' := q j hj
      by_cases e : j = i
      · subst e
        have e2 : (g.nodes.set j { g.nodes.getD j nd0 with cls := x }).getD j nd0 = { g.nodes.getD j nd0 with cls := x } := by simp [List.getD_eq_getElem?_getD, hj]
        rw [e2]
        refine ⟨by rw [if_pos rfl], ?_, ?_⟩
        · rw [if_neg (by omega)]; exact q'.2.1
        · rw [if_neg (by omega)]; exact q'.2.2
      · have e2 : (g.nodes.set i { g.nodes.getD i nd0 with cls := x }).getD j nd0 = g.nodes.getD j nd0 := by simp [List.getD_eq_getElem?_getD, Ne.symm e]
        rw [e2]
        refine ⟨?_, ?_, ?_⟩
        · rw [if_neg (by omega)]; exact q'.1
        · rw [if_neg (by omega)]; exact q'.2.1
        · rw [if_neg (by omega)]; exact q'.2.2
    · rw [List.length_set] at hj
      have e2 : ((g.nodes.set i { g.nodes.getD i nd0 with cls := x }).getD j nd0).fl = (g.nodes.getD j nd0).fl := by
        by_cases e : j = i
        · subst e
          simp [List.getD_eq_getElem?_getD, hj]
        · simp [List.getD_eq_getElem?_getD, Ne.symm e]
      rw [e2]
      exact G.ir (hb.fl j hj) (fun b r s => hd j hj b (inB_own (hf j hj) r) s)
  have SM : Gsm ⟨g.roots, g.nodes.set i { g.nodes.getD i nd0 with cls := x }, g.hash⟩ := by
    refine ⟨by have := k.sm.1; show g.roots.length ≤ 1000; omega, by have := k.sm.2.1; show (g.nodes.set i { g.nodes.getD i nd0 with cls := x }).length ≤ 10000; rw [List.length_set]; omega, fun n hn' => ?_⟩
    rcases List.mem_or_eq_of_mem_set (show n ∈ g.nodes.set i { g.nodes.getD i nd0 with cls := x } from hn') with r | rfl
    · exact k.sm.2.2.1 n r
    · have o := k.sm.2.2.1 (g.nodes.getD i nd0) (by simp [hi])
      exact ⟨⟨hx, o.1.2.1, o.1.2.2⟩, o.2⟩
  refine B2.gf (g := ⟨g.roots, g.nodes.set i { g.nodes.getD i nd0 with cls := x }, g.hash⟩) (G.row k.box (fun e => nbH e.symm)) hH ?_ SM k.r6
  have := GAt.of (hh := g.hash) (nc := nc) (IR_of_owns rt2) (own_lowG rt2) hb2 hB (fun j hj => by rw [List.length_set] at hj; exact own_lowG (hf j hj)) (by rw [List.length_set]; exact hc)
  rw [List.length_set] at this
  exact this

end Go.Proofs.YtboiknllmnfipaaGreatDoor

/- A graph being drawn: one more field, two nodes exchanged. -/
namespace Go.Proofs.YtboiknllmnfipaaGreatDoor
open Go.RowKit

theorem set_get {ns : List Nd} {i j : Nat} {n : Nd} (hi : i < ns.length) : (ns.set i n).getD j nd0 = if j = i then n else ns.getD j nd0 := by
  by_cases e : j = i
  · subst e
    rw [if_pos rfl]
    simp [List.getD_eq_getElem?_getD, hi]
  · rw [if_neg e]
    simp [List.getD_eq_getElem?_getD, Ne.symm e]
/-- One node is another. -/
theorem NB.put3 {w : World} {nb i : Nat} {ns : List Nd} {fv : Nat → Value} {n : Nd} {f : Value} (h : NB w nb ns fv) (hi : i < ns.length) (hf : IR w f n.fl) (nf : ∀ b, inB f b → b ≠ nb) (nv : ∀ j, j < ns.length → ∀ b, inB (fv j) b → b ≠ nb) :
    NB (((w.setCell ⟨nb, i * 3, none⟩ (.int .i64 n.cls)).setCell ⟨nb, i * 3 + 1, none⟩ (.int .i64 n.hash)).setCell ⟨nb, i * 3 + 2, none⟩ f) nb (ns.set i n) (fun j => if j = i then f else fv j) := by
  obtain ⟨M, q, R, hM, r⟩ := h.row
  have G : Grew w (((w.setCell ⟨nb, i * 3, none⟩ (.int .i64 n.cls)).setCell ⟨nb, i * 3 + 1, none⟩ (.int .i64 n.hash)).setCell ⟨nb, i * 3 + 2, none⟩ f) (fun k => k = nb) := ((Grew.set _ _ _ _).trans (Grew.set _ _ _ _)).trans (Grew.set _ _ _ _)
  refine ⟨⟨M, _, ((R.set (i * 3) (.int .i64 n.cls)).set (i * 3 + 1) (.int .i64 n.hash)).set (i * 3 + 2) f, by rw [List.length_set]; exact hM, fun j hj => ?_⟩, fun j hj => ?_⟩
  · rw [List.length_set] at hj
    have r' := r j hj
    rw [set_get hi]
    (try dsimp only)
    by_cases e : j = i
    · subst e
      rw [if_pos rfl, if_pos rfl]
      refine ⟨?_, ?_, ?_⟩
      · rw [if_neg (by omega), if_neg (by omega)]
      · rw [if_neg (by omega), if_pos rfl]
      · simp
    · rw [if_neg e, if_neg e]
      refine ⟨?_, ?_, ?_⟩
      · rw [if_neg (by omega), if_neg (by omega), if_neg (by omega)]; exact r'.1
      · rw [if_neg (by omega), if_neg (by omega), if_neg (by omega)]; exact r'.2.1
      · rw [if_neg (by omega), if_neg (by omega), if_neg (by omega)]; exact r'.2.2
  · rw [List.length_set] at hj
    rw [set_get hi]
    (try dsimp only)
    by_cases e : j = i
    · rw [if_pos e, if_pos e]
      exact G.ir hf nf
    · rw [if_neg e, if_neg e]
      exact G.ir (h.fl j hj) (nv j hj)
/-- One more field of a node. -/
theorem GP.field {w : World} {N : Nat} {cv : Value} {cs : List UInt8} {H nb nc : Nat} {W W' : World} {rv f1 : Value} {g : Gr} {fv : Nat → Value} {i : Nat} {x : Int} (k : GP w N cv cs H W rv (.slice (some ⟨nb, 0, none⟩) g.nodes.length nc) g fv) (hi : i < g.nodes.length) (hx : g64 x)
    (ho : W'.ownsRow (w.heap.size + 1) 2 1 f1 ((g.nodes.getD i nd0).fl.length + 1) (icells (g.nodes.getD i nd0).fl ++ [.int .i64 x])) (gg : W.grownBy W' (fv i).ownBlock) :
    GF w N cv cs H (W'.setCell ⟨nb, i * 3 + 2, none⟩ f1) rv (.slice (some ⟨nb, 0, none⟩) g.nodes.length nc) g.hash := by
  have hH := k.hH
  obtain ⟨xs, hn, ht, hf, ha⟩ := k.nd
  obtain ⟨hb, hc, hB, hd⟩ := NOwn.nb k.nd
  have G1 := Grew.grown gg
  have G2 := Grew.set W' nb (i * 3 + 2) f1
  have nbH : nb ≠ H := fun e => box_ne k.box hn (by decide) (by rw [e]; rfl)
  have B2 := (k.gb.step gg (fun b e => ((hf i hi).lt b e).1)).set nb (i * 3 + 2) f1 hB
  have bx : (W'.setCell ⟨nb, i * 3 + 2, none⟩ f1).rowIs H 27 3 (grF rv (.slice (some ⟨nb, 0, none⟩) g.nodes.length nc) g.hash) := G2.row (G1.row k.box (fun e => box_ne k.box (hf i hi) (by decide) e)) (fun e => nbH e.symm)
  obtain ⟨M, q, R, hM, r⟩ := hb.row
  have R1 : W'.rowIs nb 41 M q := G1.row R (fun e => hd i hi nb e rfl)
  have ho' : W'.ownsRow (w.heap.size + 1) 2 1 f1 ((g.nodes.getD i nd0).fl ++ [x]).length (icells ((g.nodes.getD i nd0).fl ++ [x])) := by simpa [icells] using ho
  have rt2 : IR (W'.setCell ⟨nb, i * 3 + 2, none⟩ f1) rv g.roots := G2.ir (G1.ir (IR_of_owns k.rt) (fun b z e => k.ap i hi b (inB_own k.rt z) e)) (fun b z e => type_ne k.rt hn (by decide) (inB_own k.rt z) (by rw [e]; rfl))
  have n1 : ∀ b, inB f1 b → b ≠ nb := fun b z e => box_ne R1 ho' (by decide) (by rw [inB_own ho' z, e])
  have nb2 : NB (W'.setCell ⟨nb, i * 3 + 2, none⟩ f1) nb (g.nodes.set i { g.nodes.getD i nd0 with fl := (g.nodes.getD i nd0).fl ++ [x] }) (fun j => if j = i then f1 else fv j) := by
    refine ⟨⟨M, _, R1.set (i * 3 + 2) f1, by rw [List.length_set]; exact hM, fun j hj => ?_⟩, fun j hj => ?_⟩
    · rw [List.length_set] at hj
      have r' := r j hj
      rw [set_get hi]
      dsimp only
      by_cases e : j = i
      · subst e
        rw [if_pos rfl, if_pos rfl]
        refine ⟨?_, ?_, ?_⟩
        · rw [if_neg (by omega)]; exact r'.1
        · rw [if_neg (by omega)]; exact r'.2.1
        · rw [if_pos rfl]
      · rw [if_neg e, if_neg e]
        refine ⟨?_, ?_, ?_⟩
        · rw [if_neg (by omega)]; exact r'.1
        · rw [if_neg (by omega)]; exact r'.2.1
        · rw [if_neg (by omega)]; exact r'.2.2
    · rw [List.length_set] at hj
      rw [set_get hi]
      dsimp only
      by_cases e : j = i
      · rw [if_pos e, if_pos e]
        exact G2.ir (IR_of_owns ho') n1
      · rw [if_neg e, if_neg e]
        exact G2.ir (G1.ir (hb.fl j hj) (fun b z s => ha i j hi hj (Ne.symm e) b s (inB_own (hf j hj) z))) (fun b z s => hd j hj b (inB_own (hf j hj) z) s)
  have SM : Gsm ⟨g.roots, g.nodes.set i { g.nodes.getD i nd0 with fl := (g.nodes.getD i nd0).fl ++ [x] }, g.hash⟩ := by
    refine ⟨by have := k.sm.1; show g.roots.length ≤ 1000; omega, by have := k.sm.2.1; show (g.nodes.set i { g.nodes.getD i nd0 with fl := (g.nodes.getD i nd0).fl ++ [x] }).length ≤ 10000; rw [List.length_set]; omega, fun n hn' => ?_⟩
    rcases List.mem_or_eq_of_mem_set (show n ∈ g.nodes.set i { g.nodes.getD i nd0 with fl := (g.nodes.getD i nd0).fl ++ [x] } from hn') with z | rfl
    · exact k.sm.2.2.1 n z
    · have hm : g.nodes.getD i nd0 ∈ g.nodes := by simp [hi]
      have o := k.sm.2.2.1 _ hm
      have o2 := k.sm.2.2.2 _ hm
      refine ⟨⟨o.1.1, o.1.2.1, fun y hy => ?_⟩, ?_⟩
      · rcases List.mem_append.1 (show y ∈ (g.nodes.getD i nd0).fl ++ [x] from hy) with z | z
        · exact o.1.2.2 y z
        · rw [List.mem_singleton] at z
          rw [z]
          exact hx
      · show ((g.nodes.getD i nd0).fl ++ [x]).length ≤ 10000000
        simp only [List.length_append, List.length_singleton]
        omega
  refine B2.gf (g := ⟨g.roots, g.nodes.set i { g.nodes.getD i nd0 with fl := (g.nodes.getD i nd0).fl ++ [x] }, g.hash⟩) bx hH ?_ SM k.r6
  have := GAt.of (hh := g.hash) (nc := nc) rt2 (own_lowG k.rt) nb2 hB (fun j hj => by
    rw [List.length_set] at hj
    (try dsimp only)
    by_cases e : j = i
    · rw [if_pos e]
      exact own_lowG ho'
    · rw [if_neg e]
      exact own_lowG (hf j hj)) (by rw [List.length_set]; exact hc)
  rw [List.length_set] at this
  exact this
/-- The first two nodes are exchanged. -/
theorem GP.swap {w : World} {N : Nat} {cv : Value} {cs : List UInt8} {H nb nc : Nat} {W : World} {rv : Value} {g : Gr} {fv : Nat → Value} (k : GP w N cv cs H W rv (.slice (some ⟨nb, 0, none⟩) g.nodes.length nc) g fv) (h2 : 1 < g.nodes.length) :
    GF w N cv cs H ((((((W.setCell ⟨nb, 0, none⟩ (.int .i64 (g.nodes.getD 1 nd0).cls)).setCell ⟨nb, 1, none⟩ (.int .i64 (g.nodes.getD 1 nd0).hash)).setCell ⟨nb, 2, none⟩ (fv 1)).setCell ⟨nb, 3, none⟩ (.int .i64 (g.nodes.getD 0 nd0).cls)).setCell ⟨nb, 4, none⟩ (.int .i64 (g.nodes.getD 0 nd0).hash)).setCell ⟨nb, 5, none⟩ (fv 0)) rv (.slice (some ⟨nb, 0, none⟩) g.nodes.length nc) g.hash := by
  have hH := k.hH
  obtain ⟨xs, hn, ht, hf, ha⟩ := k.nd
  obtain ⟨hb, hc, hB, hd⟩ := NOwn.nb k.nd
  have nbH : nb ≠ H := fun e => box_ne k.box hn (by decide) (by rw [e]; rfl)
  have nn : ∀ j, j < g.nodes.length → ∀ b, inB (fv j) b → b ≠ nb := fun j hj b z => hd j hj b (inB_own (hf j hj) z)
  have b1 := hb.put3 (i := 0) (n := g.nodes.getD 1 nd0) (f := fv 1) (by omega) (hb.fl 1 h2) (nn 1 h2) nn
  have l1 : (g.nodes.set 0 (g.nodes.getD 1 nd0)).length = g.nodes.length := List.length_set ..
  have G1 : Grew W (((W.setCell ⟨nb, 0 * 3, none⟩ (.int .i64 (g.nodes.getD 1 nd0).cls)).setCell ⟨nb, 0 * 3 + 1, none⟩ (.int .i64 (g.nodes.getD 1 nd0).hash)).setCell ⟨nb, 0 * 3 + 2, none⟩ (fv 1)) (fun z => z = nb) := ((Grew.set _ _ _ _).trans (Grew.set _ _ _ _)).trans (Grew.set _ _ _ _)
  have b2 := b1.put3 (i := 1) (n := g.nodes.getD 0 nd0) (f := fv 0) (by omega) (G1.ir (hb.fl 0 (by omega)) (nn 0 (by omega))) (nn 0 (by omega)) (fun j hj b z => by
    rw [l1] at hj
    (try dsimp only at z)
    split at z
    · exact nn 1 h2 b z
    · exact nn j hj b z)
  have G2 : Grew W ((((((W.setCell ⟨nb, 0, none⟩ (.int .i64 (g.nodes.getD 1 nd0).cls)).setCell ⟨nb, 1, none⟩ (.int .i64 (g.nodes.getD 1 nd0).hash)).setCell ⟨nb, 2, none⟩ (fv 1)).setCell ⟨nb, 3, none⟩ (.int .i64 (g.nodes.getD 0 nd0).cls)).setCell ⟨nb, 4, none⟩ (.int .i64 (g.nodes.getD 0 nd0).hash)).setCell ⟨nb, 5, none⟩ (fv 0)) (fun z => z = nb) :=
    (((((Grew.set _ _ _ _).trans (Grew.set _ _ _ _)).trans (Grew.set _ _ _ _)).trans (Grew.set _ _ _ _)).trans (Grew.set _ _ _ _)).trans (Grew.set _ _ _ _)
  have B2 := ((((((k.gb.set nb 0 (.int .i64 (g.nodes.getD 1 nd0).cls) hB).set nb 1 (.int .i64 (g.nodes.getD 1 nd0).hash) hB).set nb 2 (fv 1) hB).set nb 3 (.int .i64 (g.nodes.getD 0 nd0).cls) hB).set nb 4 (.int .i64 (g.nodes.getD 0 nd0).hash) hB).set nb 5 (fv 0) hB)
  have rt2 := G2.own k.rt (fun b e s => type_ne k.rt hn (by decide) e (by rw [s]; rfl))
  have l2 : ((g.nodes.set 0 (g.nodes.getD 1 nd0)).set 1 (g.nodes.getD 0 nd0)).length = g.nodes.length := by rw [List.length_set, l1]
  have SM : Gsm ⟨g.roots, (g.nodes.set 0 (g.nodes.getD 1 nd0)).set 1 (g.nodes.getD 0 nd0), g.hash⟩ := by
    refine ⟨by have := k.sm.1; show g.roots.length ≤ 1000; omega, by have := k.sm.2.1; show ((g.nodes.set 0 (g.nodes.getD 1 nd0)).set 1 (g.nodes.getD 0 nd0)).length ≤ 10000; rw [l2]; omega, fun n hn' => ?_⟩
    have m0 : g.nodes.getD 0 nd0 ∈ g.nodes := by simp [show 0 < g.nodes.length from by omega]
    have m1 : g.nodes.getD 1 nd0 ∈ g.nodes := by simp [h2]
    rcases List.mem_or_eq_of_mem_set (show n ∈ (g.nodes.set 0 (g.nodes.getD 1 nd0)).set 1 (g.nodes.getD 0 nd0) from hn') with z | rfl
    · rcases List.mem_or_eq_of_mem_set z with z | rfl
      · exact k.sm.2.2.1 n z
      · exact k.sm.2.2.1 _ m1
    · exact k.sm.2.2.1 _ m0
  refine B2.gf (g := ⟨g.roots, (g.nodes.set 0 (g.nodes.getD 1 nd0)).set 1 (g.nodes.getD 0 nd0), g.hash⟩) (G2.row k.box (fun e => nbH e.symm)) hH ?_ SM k.r6
  have := GAt.of (hh := g.hash) (nc := nc) (IR_of_owns rt2) (own_lowG rt2) b2 hB (fun j hj => by
    rw [l2] at hj
    (try dsimp only)
    split
    · exact own_lowG (hf 0 (by omega))
    · split
      · exact own_lowG (hf 1 h2)
      · exact own_lowG (hf j hj)) (by rw [l2]; exact hc)
  rw [l2] at this
  exact this

end Go.Proofs.YtboiknllmnfipaaGreatDoor
