/- New of the program. -/
import Derived.Test.YtgacacbncefeaaaGreatZP2
import Derived.Test.YtgacacbncefeaaaGreatZMLay
namespace Go.Proofs.YtgacacbncefeaaaGreat
open Go.RowKit

theorem new_no {h : Hp} {k n : Int} (q : newB h k n = false) : newC h k n = zeroH := by unfold newC; rw [q]; rfl
theorem new_w0 {h : Hp} {k n : Int} (q : newB h k n = false) : newW' h k n = 0 := by unfold newW'; rw [q]; rfl
theorem new_yes {h : Hp} {k n : Int} (q : newB h k n = true) : newC h k n = newHp h k n := by unfold newC; rw [q]; rfl
theorem new_w1 {h : Hp} {k n : Int} (q : newB h k n = true) : newW' h k n = 2 * h.eden + 1 := by unfold newW'; rw [q]; rfl
theorem zero_ret3 {h' : Hp} {b : Bool} {B : Nat} {w' : World} {z : Int} (k : b = false) (e : h' = zeroH) (e' : z = 0) :
    Ending.returned (.tuple #[.agg #[.slice none 0 0, .slice none 0 0, .int .i64 0, .int .i64 0, .int .i64 0, .bool false, .int .i64 0, .slice none 0 0], .int .i64 0, .bool false]) = .returned (.tuple #[.agg #[.slice none 0 0, .slice none 0 0, .int .i64 0, .int .i64 0, .int .i64 0, .bool false, .int .i64 0, .slice none 0 0], .int .i64 z, .bool b]) ∧ HN B w' (.agg #[.slice none 0 0, .slice none 0 0, .int .i64 0, .int .i64 0, .int .i64 0, .bool false, .int .i64 0, .slice none 0 0]) h' := by
  subst k
  subst e
  subst e'
  exact ⟨rfl, zero_hn _ _⟩

set_option maxRecDepth 100000 in
set_option maxHeartbeats 3200000 in
theorem implNew_c (v : Value) (h : Hp) (k n : Int) (w : World) (hv : HR w v h) (hwo : h.words.length ≤ 1000000000000) (hro : h.roots.length ≤ 1000000000000) (hke : h.kept.length ≤ 1000000000000) :
    Calls Tryz.prog 35 #[v, .int .i64 k, .int .i64 n] w fun e w' => (∃ u, e = .returned (.tuple #[u, .int .i64 (newW' h k n), .bool (newB h k n)]) ∧ HN w.heap.size w' u (newC h k n)) ∧ Below w.heap.size w w' := by
  obtain ⟨v1, v2, v3, rfl, i1, i2, i3⟩ := id hv
  obtain ⟨a1, c1, rfl, -⟩ := IRs i1
  obtain ⟨a2, c2, rfl, -⟩ := IRs i2
  obtain ⟨a3, c3, rfl, -⟩ := IRs i3
  have hb0 : Below w.heap.size w ((w.alloc (.cells #[.slice a1 h.words.length c1, .slice a2 h.roots.length c2, .int .i64 h.old, .int .i64 h.eden, .int .i64 h.surv, .bool h.flip, .int .i64 h.hash, .slice a3 h.kept.length c3] 28)).alloc (.cells #[.slice none 0 0, .slice none 0 0, .int .i64 0, .int .i64 0, .int .i64 0, .bool false, .int .i64 0, .slice none 0 0] 28)) := bel_after (bel_one _ _) (bel_one _ _)
  obtain ⟨f, R0⟩ : ∃ f, ((w.alloc (.cells #[.slice a1 h.words.length c1, .slice a2 h.roots.length c2, .int .i64 h.old, .int .i64 h.eden, .int .i64 h.surv, .bool h.flip, .int .i64 h.hash, .slice a3 h.kept.length c3] 28)).alloc (.cells #[.slice none 0 0, .slice none 0 0, .int .i64 0, .int .i64 0, .int .i64 0, .bool false, .int .i64 0, .slice none 0 0] 28)).rowIs (w.heap.size + 1) 28 8 f := by
    have q := row_any (w.alloc (.cells #[.slice a1 h.words.length c1, .slice a2 h.roots.length c2, .int .i64 h.old, .int .i64 h.eden, .int .i64 h.surv, .bool h.flip, .int .i64 h.hash, .slice a3 h.kept.length c3] 28)) #[.slice none 0 0, .slice none 0 0, .int .i64 0, .int .i64 0, .int .i64 0, .bool false, .int .i64 0, .slice none 0 0] 28
    rw [World.size_alloc] at q
    exact ⟨_, q⟩
  have C := draftOf_c _ h _ (hv.later hb0) hwo hro hke
  clear i1 i2 i3
  go_enter Tryz.func35, Tryz.ntmps35
  go_wp2_with fail
  refine C.mono ?_
  rintro e w1 ⟨dr, hb1⟩
  have hbw1 := bel_after hb0 hb1
  have R1 := R0.of_block (hb1.block _ R0.lt)
  clear C R0
  rcases dr with ⟨hk, g1, g2, g3, oa, oc, rfl, ⟨q1, q2, q3⟩, ⟨l0, l1, l2⟩, io⟩ | ⟨hk, rfl⟩
  · have al := bel_one w1 (.cells #[.slice (some ⟨g1, 0, none⟩) h.words.length h.words.length, .slice oa (obC h).length oc, .slice (some ⟨g2, 0, none⟩) h.roots.length h.roots.length, .int .i64 h.old, .int .i64 h.eden, .int .i64 h.surv, .bool h.flip, .int .i64 h.hash, .slice (some ⟨g3, 0, none⟩) h.kept.length h.kept.length] 72)
    have hbA := bel_after hbw1 al
    have R2 := R1.of_block (al.block _ R1.lt)
    obtain ⟨fd, D2⟩ : ∃ fd, (w1.alloc (.cells #[.slice (some ⟨g1, 0, none⟩) h.words.length h.words.length, .slice oa (obC h).length oc, .slice (some ⟨g2, 0, none⟩) h.roots.length h.roots.length, .int .i64 h.old, .int .i64 h.eden, .int .i64 h.surv, .bool h.flip, .int .i64 h.hash, .slice (some ⟨g3, 0, none⟩) h.kept.length h.kept.length] 72)).rowIs w1.heap.size 72 9 fd := ⟨_, row_any w1 #[.slice (some ⟨g1, 0, none⟩) h.words.length h.words.length, .slice oa (obC h).length oc, .slice (some ⟨g2, 0, none⟩) h.roots.length h.roots.length, .int .i64 h.old, .int .i64 h.eden, .int .i64 h.surv, .bool h.flip, .int .i64 h.hash, .slice (some ⟨g3, 0, none⟩) h.kept.length h.kept.length] 72⟩
    have l0' : w.heap.size + 1 + 1 ≤ g1 := by simpa using l0
    have P1 := q1.later al
    have P2 := q2.later al
    have P3 := q3.later al
    have ltg1 := q1.lt
    have ltg2 := q2.lt
    have ltg3 := q3.lt
    have d0 : (w1.alloc (.cells #[.slice (some ⟨g1, 0, none⟩) h.words.length h.words.length, .slice oa (obC h).length oc, .slice (some ⟨g2, 0, none⟩) h.roots.length h.roots.length, .int .i64 h.old, .int .i64 h.eden, .int .i64 h.surv, .bool h.flip, .int .i64 h.hash, .slice (some ⟨g3, 0, none⟩) h.kept.length h.kept.length] 72)).cell? ⟨w1.heap.size, 0, none⟩ = some (.slice (some ⟨g1, 0, none⟩) h.words.length h.words.length) := cell_new w1 #[.slice (some ⟨g1, 0, none⟩) h.words.length h.words.length, .slice oa (obC h).length oc, .slice (some ⟨g2, 0, none⟩) h.roots.length h.roots.length, .int .i64 h.old, .int .i64 h.eden, .int .i64 h.surv, .bool h.flip, .int .i64 h.hash, .slice (some ⟨g3, 0, none⟩) h.kept.length h.kept.length] 72 _ rfl 0 _ rfl
    have d1 : (w1.alloc (.cells #[.slice (some ⟨g1, 0, none⟩) h.words.length h.words.length, .slice oa (obC h).length oc, .slice (some ⟨g2, 0, none⟩) h.roots.length h.roots.length, .int .i64 h.old, .int .i64 h.eden, .int .i64 h.surv, .bool h.flip, .int .i64 h.hash, .slice (some ⟨g3, 0, none⟩) h.kept.length h.kept.length] 72)).cell? ⟨w1.heap.size, 1, none⟩ = some (.slice oa (obC h).length oc) := cell_new w1 #[.slice (some ⟨g1, 0, none⟩) h.words.length h.words.length, .slice oa (obC h).length oc, .slice (some ⟨g2, 0, none⟩) h.roots.length h.roots.length, .int .i64 h.old, .int .i64 h.eden, .int .i64 h.surv, .bool h.flip, .int .i64 h.hash, .slice (some ⟨g3, 0, none⟩) h.kept.length h.kept.length] 72 _ rfl 1 _ rfl
    have d2 : (w1.alloc (.cells #[.slice (some ⟨g1, 0, none⟩) h.words.length h.words.length, .slice oa (obC h).length oc, .slice (some ⟨g2, 0, none⟩) h.roots.length h.roots.length, .int .i64 h.old, .int .i64 h.eden, .int .i64 h.surv, .bool h.flip, .int .i64 h.hash, .slice (some ⟨g3, 0, none⟩) h.kept.length h.kept.length] 72)).cell? ⟨w1.heap.size, 2, none⟩ = some (.slice (some ⟨g2, 0, none⟩) h.roots.length h.roots.length) := cell_new w1 #[.slice (some ⟨g1, 0, none⟩) h.words.length h.words.length, .slice oa (obC h).length oc, .slice (some ⟨g2, 0, none⟩) h.roots.length h.roots.length, .int .i64 h.old, .int .i64 h.eden, .int .i64 h.surv, .bool h.flip, .int .i64 h.hash, .slice (some ⟨g3, 0, none⟩) h.kept.length h.kept.length] 72 _ rfl 2 _ rfl
    have d3 : (w1.alloc (.cells #[.slice (some ⟨g1, 0, none⟩) h.words.length h.words.length, .slice oa (obC h).length oc, .slice (some ⟨g2, 0, none⟩) h.roots.length h.roots.length, .int .i64 h.old, .int .i64 h.eden, .int .i64 h.surv, .bool h.flip, .int .i64 h.hash, .slice (some ⟨g3, 0, none⟩) h.kept.length h.kept.length] 72)).cell? ⟨w1.heap.size, 3, none⟩ = some (.int .i64 h.old) := cell_new w1 #[.slice (some ⟨g1, 0, none⟩) h.words.length h.words.length, .slice oa (obC h).length oc, .slice (some ⟨g2, 0, none⟩) h.roots.length h.roots.length, .int .i64 h.old, .int .i64 h.eden, .int .i64 h.surv, .bool h.flip, .int .i64 h.hash, .slice (some ⟨g3, 0, none⟩) h.kept.length h.kept.length] 72 _ rfl 3 _ rfl
    have d4 : (w1.alloc (.cells #[.slice (some ⟨g1, 0, none⟩) h.words.length h.words.length, .slice oa (obC h).length oc, .slice (some ⟨g2, 0, none⟩) h.roots.length h.roots.length, .int .i64 h.old, .int .i64 h.eden, .int .i64 h.surv, .bool h.flip, .int .i64 h.hash, .slice (some ⟨g3, 0, none⟩) h.kept.length h.kept.length] 72)).cell? ⟨w1.heap.size, 4, none⟩ = some (.int .i64 h.eden) := cell_new w1 #[.slice (some ⟨g1, 0, none⟩) h.words.length h.words.length, .slice oa (obC h).length oc, .slice (some ⟨g2, 0, none⟩) h.roots.length h.roots.length, .int .i64 h.old, .int .i64 h.eden, .int .i64 h.surv, .bool h.flip, .int .i64 h.hash, .slice (some ⟨g3, 0, none⟩) h.kept.length h.kept.length] 72 _ rfl 4 _ rfl
    have d5 : (w1.alloc (.cells #[.slice (some ⟨g1, 0, none⟩) h.words.length h.words.length, .slice oa (obC h).length oc, .slice (some ⟨g2, 0, none⟩) h.roots.length h.roots.length, .int .i64 h.old, .int .i64 h.eden, .int .i64 h.surv, .bool h.flip, .int .i64 h.hash, .slice (some ⟨g3, 0, none⟩) h.kept.length h.kept.length] 72)).cell? ⟨w1.heap.size, 5, none⟩ = some (.int .i64 h.surv) := cell_new w1 #[.slice (some ⟨g1, 0, none⟩) h.words.length h.words.length, .slice oa (obC h).length oc, .slice (some ⟨g2, 0, none⟩) h.roots.length h.roots.length, .int .i64 h.old, .int .i64 h.eden, .int .i64 h.surv, .bool h.flip, .int .i64 h.hash, .slice (some ⟨g3, 0, none⟩) h.kept.length h.kept.length] 72 _ rfl 5 _ rfl
    have d6 : (w1.alloc (.cells #[.slice (some ⟨g1, 0, none⟩) h.words.length h.words.length, .slice oa (obC h).length oc, .slice (some ⟨g2, 0, none⟩) h.roots.length h.roots.length, .int .i64 h.old, .int .i64 h.eden, .int .i64 h.surv, .bool h.flip, .int .i64 h.hash, .slice (some ⟨g3, 0, none⟩) h.kept.length h.kept.length] 72)).cell? ⟨w1.heap.size, 6, none⟩ = some (.bool h.flip) := cell_new w1 #[.slice (some ⟨g1, 0, none⟩) h.words.length h.words.length, .slice oa (obC h).length oc, .slice (some ⟨g2, 0, none⟩) h.roots.length h.roots.length, .int .i64 h.old, .int .i64 h.eden, .int .i64 h.surv, .bool h.flip, .int .i64 h.hash, .slice (some ⟨g3, 0, none⟩) h.kept.length h.kept.length] 72 _ rfl 6 _ rfl
    have d7 : (w1.alloc (.cells #[.slice (some ⟨g1, 0, none⟩) h.words.length h.words.length, .slice oa (obC h).length oc, .slice (some ⟨g2, 0, none⟩) h.roots.length h.roots.length, .int .i64 h.old, .int .i64 h.eden, .int .i64 h.surv, .bool h.flip, .int .i64 h.hash, .slice (some ⟨g3, 0, none⟩) h.kept.length h.kept.length] 72)).cell? ⟨w1.heap.size, 7, none⟩ = some (.int .i64 h.hash) := cell_new w1 #[.slice (some ⟨g1, 0, none⟩) h.words.length h.words.length, .slice oa (obC h).length oc, .slice (some ⟨g2, 0, none⟩) h.roots.length h.roots.length, .int .i64 h.old, .int .i64 h.eden, .int .i64 h.surv, .bool h.flip, .int .i64 h.hash, .slice (some ⟨g3, 0, none⟩) h.kept.length h.kept.length] 72 _ rfl 7 _ rfl
    have d8 : (w1.alloc (.cells #[.slice (some ⟨g1, 0, none⟩) h.words.length h.words.length, .slice oa (obC h).length oc, .slice (some ⟨g2, 0, none⟩) h.roots.length h.roots.length, .int .i64 h.old, .int .i64 h.eden, .int .i64 h.surv, .bool h.flip, .int .i64 h.hash, .slice (some ⟨g3, 0, none⟩) h.kept.length h.kept.length] 72)).cell? ⟨w1.heap.size, 8, none⟩ = some (.slice (some ⟨g3, 0, none⟩) h.kept.length h.kept.length) := cell_new w1 #[.slice (some ⟨g1, 0, none⟩) h.words.length h.words.length, .slice oa (obC h).length oc, .slice (some ⟨g2, 0, none⟩) h.roots.length h.roots.length, .int .i64 h.old, .int .i64 h.eden, .int .i64 h.surv, .bool h.flip, .int .i64 h.hash, .slice (some ⟨g3, 0, none⟩) h.kept.length h.kept.length] 72 _ rfl 8 _ rfl
    go_wp2_with fail
    generalize hw2 : (w1.alloc (.cells #[.slice (some ⟨g1, 0, none⟩) h.words.length h.words.length, .slice oa (obC h).length oc, .slice (some ⟨g2, 0, none⟩) h.roots.length h.roots.length, .int .i64 h.old, .int .i64 h.eden, .int .i64 h.surv, .bool h.flip, .int .i64 h.hash, .slice (some ⟨g3, 0, none⟩) h.kept.length h.kept.length] 72)) = w2 at *
    have sz2 : w2.heap.size = w1.heap.size + 1 := by rw [← hw2]; simp
    clear hw2
    have CK := fun W => isClass_any k W
    have CN := fun W => isSize_any n W
    have ok := ok_len hk
    obtain ⟨ok1, ok2, ok3, ok4, ok5, ok6⟩ := ok
    have ER := fun W => edenRoom_any h.eden W ⟨by omega, by omega⟩
    clear R1 io l0 hv al
    refine (CK _).mono ?_
    rintro e wq ⟨rfl, hq⟩
    obtain rfl := hq.symm
    clear hq CK
    by_cases hck : 0 ≤ k ∧ k ≤ 99
    case neg =>
      have AB : newB h k n = false := by unfold newB; rw [hk, decide_eq_false hck]; rfl
      rw [decide_eq_false hck]
      clear ok1
      have r0 := R2.cell (i := 0) (by omega)
      have r1 := R2.cell (i := 1) (by omega)
      have r2 := R2.cell (i := 2) (by omega)
      have r3 := R2.cell (i := 3) (by omega)
      have r4 := R2.cell (i := 4) (by omega)
      have r5 := R2.cell (i := 5) (by omega)
      have r6 := R2.cell (i := 6) (by omega)
      have r7 := R2.cell (i := 7) (by omega)
      have fR := fun i => R2.frozen i
      have ltR := R2.lt
      have B9 : Below w.heap.size w ((((((((w2.setCell ⟨w.heap.size + 1, 0, none⟩ (.slice none 0 0)).setCell ⟨w.heap.size + 1, 1, none⟩ (.slice none 0 0)).setCell ⟨w.heap.size + 1, 2, none⟩ (.int .i64 0)).setCell ⟨w.heap.size + 1, 3, none⟩ (.int .i64 0)).setCell ⟨w.heap.size + 1, 4, none⟩ (.int .i64 0)).setCell ⟨w.heap.size + 1, 5, none⟩ (.bool false)).setCell ⟨w.heap.size + 1, 6, none⟩ (.int .i64 0)).setCell ⟨w.heap.size + 1, 7, none⟩ (.slice none 0 0)) := by
        repeat (refine Below.setCell ?_ (p := ⟨w.heap.size + 1, _, none⟩) (Nat.le_succ _) _)
        exact hbA
      go_wp2_with (first
        | (go_at_call 65; refine (CN _).mono ?_; rintro e wq ⟨rfl, hq⟩; obtain rfl := hq.symm)
        | (go_at_call 66; refine (ER _).mono ?_; rintro e wq ⟨rfl, hq⟩; obtain rfl := hq.symm))
      exact bodyPost_ret (v := .tuple #[.agg #[.slice none 0 0, .slice none 0 0, .int .i64 0, .int .i64 0, .int .i64 0, .bool false, .int .i64 0, .slice none 0 0], .int .i64 0, .bool false]) (by simp [results, Tryz.results35, go_sem, r0, r1, r2, r3, r4, r5, r6, r7]) rfl ⟨⟨_, zero_ret3 AB (new_no AB) (new_w0 AB)⟩, B9⟩
    rw [decide_eq_true hck]
    by_cases hcn : 0 ≤ n ∧ n ≤ 60
    case neg =>
      have AB : newB h k n = false := by unfold newB; rw [hk, decide_eq_true hck, decide_eq_false hcn]; rfl
      rw [decide_eq_false hcn] at CN
      clear ok1
      have r0 := R2.cell (i := 0) (by omega)
      have r1 := R2.cell (i := 1) (by omega)
      have r2 := R2.cell (i := 2) (by omega)
      have r3 := R2.cell (i := 3) (by omega)
      have r4 := R2.cell (i := 4) (by omega)
      have r5 := R2.cell (i := 5) (by omega)
      have r6 := R2.cell (i := 6) (by omega)
      have r7 := R2.cell (i := 7) (by omega)
      have fR := fun i => R2.frozen i
      have ltR := R2.lt
      have B9 : Below w.heap.size w ((((((((w2.setCell ⟨w.heap.size + 1, 0, none⟩ (.slice none 0 0)).setCell ⟨w.heap.size + 1, 1, none⟩ (.slice none 0 0)).setCell ⟨w.heap.size + 1, 2, none⟩ (.int .i64 0)).setCell ⟨w.heap.size + 1, 3, none⟩ (.int .i64 0)).setCell ⟨w.heap.size + 1, 4, none⟩ (.int .i64 0)).setCell ⟨w.heap.size + 1, 5, none⟩ (.bool false)).setCell ⟨w.heap.size + 1, 6, none⟩ (.int .i64 0)).setCell ⟨w.heap.size + 1, 7, none⟩ (.slice none 0 0)) := by
        repeat (refine Below.setCell ?_ (p := ⟨w.heap.size + 1, _, none⟩) (Nat.le_succ _) _)
        exact hbA
      go_wp2_with (first
        | (go_at_call 65; refine (CN _).mono ?_; rintro e wq ⟨rfl, hq⟩; obtain rfl := hq.symm)
        | (go_at_call 66; refine (ER _).mono ?_; rintro e wq ⟨rfl, hq⟩; obtain rfl := hq.symm))
      exact bodyPost_ret (v := .tuple #[.agg #[.slice none 0 0, .slice none 0 0, .int .i64 0, .int .i64 0, .int .i64 0, .bool false, .int .i64 0, .slice none 0 0], .int .i64 0, .bool false]) (by simp [results, Tryz.results35, go_sem, r0, r1, r2, r3, r4, r5, r6, r7]) rfl ⟨⟨_, zero_ret3 AB (new_no AB) (new_w0 AB)⟩, B9⟩
    rw [decide_eq_true hcn] at CN
    by_cases hch : h.hash = 1000000000
    · have AB : newB h k n = false := by unfold newB; rw [hk, decide_eq_true hck, decide_eq_true hcn, decide_eq_true hch]; rfl
      have tch : (h.hash == 1000000000) = true := by rw [hch]; rfl
      replace hch : Hid (h.hash = 1000000000) := hch
      clear ok1
      have r0 := R2.cell (i := 0) (by omega)
      have r1 := R2.cell (i := 1) (by omega)
      have r2 := R2.cell (i := 2) (by omega)
      have r3 := R2.cell (i := 3) (by omega)
      have r4 := R2.cell (i := 4) (by omega)
      have r5 := R2.cell (i := 5) (by omega)
      have r6 := R2.cell (i := 6) (by omega)
      have r7 := R2.cell (i := 7) (by omega)
      have fR := fun i => R2.frozen i
      have ltR := R2.lt
      have B9 : Below w.heap.size w ((((((((w2.setCell ⟨w.heap.size + 1, 0, none⟩ (.slice none 0 0)).setCell ⟨w.heap.size + 1, 1, none⟩ (.slice none 0 0)).setCell ⟨w.heap.size + 1, 2, none⟩ (.int .i64 0)).setCell ⟨w.heap.size + 1, 3, none⟩ (.int .i64 0)).setCell ⟨w.heap.size + 1, 4, none⟩ (.int .i64 0)).setCell ⟨w.heap.size + 1, 5, none⟩ (.bool false)).setCell ⟨w.heap.size + 1, 6, none⟩ (.int .i64 0)).setCell ⟨w.heap.size + 1, 7, none⟩ (.slice none 0 0)) := by
        repeat (refine Below.setCell ?_ (p := ⟨w.heap.size + 1, _, none⟩) (Nat.le_succ _) _)
        exact hbA
      go_wp2_with (first
        | (go_at_call 65; refine (CN _).mono ?_; rintro e wq ⟨rfl, hq⟩; obtain rfl := hq.symm)
        | (go_at_call 66; refine (ER _).mono ?_; rintro e wq ⟨rfl, hq⟩; obtain rfl := hq.symm))
      exact bodyPost_ret (v := .tuple #[.agg #[.slice none 0 0, .slice none 0 0, .int .i64 0, .int .i64 0, .int .i64 0, .bool false, .int .i64 0, .slice none 0 0], .int .i64 0, .bool false]) (by simp [results, Tryz.results35, go_sem, r0, r1, r2, r3, r4, r5, r6, r7]) rfl ⟨⟨_, zero_ret3 AB (new_no AB) (new_w0 AB)⟩, B9⟩
    have tch : (h.hash == 1000000000) = false := by rw [beq_eq_false_iff_ne]; exact hch
    by_cases hce : h.eden + 4 + n ≤ 2600
    case neg =>
      have AB : newB h k n = false := by unfold newB; rw [hk, decide_eq_true hck, decide_eq_true hcn, decide_eq_false hch, decide_eq_false hce]; rfl
      have tce : 2600 - h.eden < 4 + n := by omega
      clear ok1
      have r0 := R2.cell (i := 0) (by omega)
      have r1 := R2.cell (i := 1) (by omega)
      have r2 := R2.cell (i := 2) (by omega)
      have r3 := R2.cell (i := 3) (by omega)
      have r4 := R2.cell (i := 4) (by omega)
      have r5 := R2.cell (i := 5) (by omega)
      have r6 := R2.cell (i := 6) (by omega)
      have r7 := R2.cell (i := 7) (by omega)
      have fR := fun i => R2.frozen i
      have ltR := R2.lt
      have B9 : Below w.heap.size w ((((((((w2.setCell ⟨w.heap.size + 1, 0, none⟩ (.slice none 0 0)).setCell ⟨w.heap.size + 1, 1, none⟩ (.slice none 0 0)).setCell ⟨w.heap.size + 1, 2, none⟩ (.int .i64 0)).setCell ⟨w.heap.size + 1, 3, none⟩ (.int .i64 0)).setCell ⟨w.heap.size + 1, 4, none⟩ (.int .i64 0)).setCell ⟨w.heap.size + 1, 5, none⟩ (.bool false)).setCell ⟨w.heap.size + 1, 6, none⟩ (.int .i64 0)).setCell ⟨w.heap.size + 1, 7, none⟩ (.slice none 0 0)) := by
        repeat (refine Below.setCell ?_ (p := ⟨w.heap.size + 1, _, none⟩) (Nat.le_succ _) _)
        exact hbA
      go_wp2_with (first
        | (go_at_call 65; refine (CN _).mono ?_; rintro e wq ⟨rfl, hq⟩; obtain rfl := hq.symm)
        | (go_at_call 66; refine (ER _).mono ?_; rintro e wq ⟨rfl, hq⟩; obtain rfl := hq.symm))
      exact bodyPost_ret (v := .tuple #[.agg #[.slice none 0 0, .slice none 0 0, .int .i64 0, .int .i64 0, .int .i64 0, .bool false, .int .i64 0, .slice none 0 0], .int .i64 0, .bool false]) (by simp [results, Tryz.results35, go_sem, r0, r1, r2, r3, r4, r5, r6, r7]) rfl ⟨⟨_, zero_ret3 AB (new_no AB) (new_w0 AB)⟩, B9⟩
    have AB : newB h k n = true := by unfold newB; rw [hk, decide_eq_true hck, decide_eq_true hcn, decide_eq_false hch, decide_eq_true hce]; rfl
    have tce : ¬ 2600 - h.eden < 4 + n := by omega
    go_wp2_with (first
      | (go_at_call 65; refine (CN _).mono ?_; rintro e wq ⟨rfl, hq⟩; obtain rfl := hq.symm)
      | (go_at_call 66; refine (ER _).mono ?_; rintro e wq ⟨rfl, hq⟩; obtain rfl := hq.symm))
    have P1' : RI w2 g1 h.words 3200 := by rw [ok1] at P1; exact P1
    have he : ((h.eden.toNat : Nat) : Int) = h.eden := by omega
    have LA := lay_any g1 (obC h).length oc h.eden.toNat oa h.words n k h.hash w2 P1' ok1 (by omega) hcn
    rw [he, laid_four hk n k h.hash (by omega)] at LA
    clear P1 P1' CN ER tce tch hch
    refine LA.mono ?_
    rintro e w3 ⟨rfl, L3, G3⟩
    have ltN := R2.lt
    have ltD := D2.lt
    have k0 := G3.cell d0 (by simp <;> omega)
    have k1 := G3.cell d1 (by simp <;> omega)
    have k2 := G3.cell d2 (by simp <;> omega)
    have k3 := G3.cell d3 (by simp <;> omega)
    have k4 := G3.cell d4 (by simp <;> omega)
    have k5 := G3.cell d5 (by simp <;> omega)
    have k6 := G3.cell d6 (by simp <;> omega)
    have k7 := G3.cell d7 (by simp <;> omega)
    have k8 := G3.cell d8 (by simp <;> omega)
    have D4 := D2.of_block (G3.block _ D2.lt (by simp <;> omega))
    have fD := fun i => D4.frozen i
    have R4 := R2.of_block (G3.block _ R2.lt (by simp <;> omega))
    have M2 := P2.grown G3 (by simp <;> omega)
    have M3 := P3.grown G3 (by simp <;> omega)
    have ltD3 := D4.lt
    have hsum : IntKind.i64.wrap (h.hash + 1) = h.hash + 1 := by rw [IntKind.wrap_i64]; omega
    clear d0 d1 d2 d3 d4 d5 d6 d7 d8 LA
    go_wp2_with fail
    refine (draftHeap_any _ _ _ _ _ _ _ _ _ _ _ _ _ _ _ _ _ _).mono ?_
    rintro e w6 ⟨rfl, hb6⟩
    have R5 := (R4.setOther (a := ⟨w1.heap.size, 4, none⟩) (by show w.heap.size + 1 ≠ w1.heap.size; omega) (.int .i64 (h.eden + 4 + n))).setOther (a := ⟨w1.heap.size, 7, none⟩) (by show w.heap.size + 1 ≠ w1.heap.size; omega) (.int .i64 (h.hash + 1))
    have R6 := R5.of_block (hb6.block _ R5.lt)
    have S1 := (RI.setOther (RI.setOther L3 (b := w1.heap.size) (i := 4) (by omega) (.int .i64 (h.eden + 4 + n))) (b := w1.heap.size) (i := 7) (by omega) (.int .i64 (h.hash + 1))).later hb6
    have S2 := (RI.setOther (RI.setOther M2 (b := w1.heap.size) (i := 4) (by omega) (.int .i64 (h.eden + 4 + n))) (b := w1.heap.size) (i := 7) (by omega) (.int .i64 (h.hash + 1))).later hb6
    have S3 := (RI.setOther (RI.setOther M3 (b := w1.heap.size) (i := 4) (by omega) (.int .i64 (h.eden + 4 + n))) (b := w1.heap.size) (i := 7) (by omega) (.int .i64 (h.hash + 1))).later hb6
    have hbx : Below w.heap.size w w3 := Below.grown hbA G3 (by have := hbA.size; omega) (fun k hk => by cases hk; omega)
    have hb5 : Below w.heap.size w w6 := ((hbx.setCell (p := ⟨w1.heap.size, 4, none⟩) (by show w.heap.size ≤ w1.heap.size; omega) _).setCell (p := ⟨w1.heap.size, 7, none⟩) (by show w.heap.size ≤ w1.heap.size; omega) _).trans (hb6.mono (by have := hbx.size; simp; omega))
    have ra : adrB h.eden = true := decide_eq_true (by omega)
    have RW := fun W => refWord_any h.eden W ra
    have r0 := R6.cell (i := 0) (by omega)
    have r1 := R6.cell (i := 1) (by omega)
    have r2 := R6.cell (i := 2) (by omega)
    have r3 := R6.cell (i := 3) (by omega)
    have r4 := R6.cell (i := 4) (by omega)
    have r5 := R6.cell (i := 5) (by omega)
    have r6 := R6.cell (i := 6) (by omega)
    have r7 := R6.cell (i := 7) (by omega)
    have fR := fun i => R6.frozen i
    have ltR := R6.lt
    have T1 : RI ((((((((w6.setCell ⟨w.heap.size + 1, 0, none⟩ (.slice (some ⟨g1, 0, none⟩) 3200 3200)).setCell ⟨w.heap.size + 1, 1, none⟩ (.slice (some ⟨g2, 0, none⟩) h.roots.length h.roots.length)).setCell ⟨w.heap.size + 1, 2, none⟩ (.int .i64 h.old)).setCell ⟨w.heap.size + 1, 3, none⟩ (.int .i64 (h.eden + 4 + n))).setCell ⟨w.heap.size + 1, 4, none⟩ (.int .i64 h.surv)).setCell ⟨w.heap.size + 1, 5, none⟩ (.bool h.flip)).setCell ⟨w.heap.size + 1, 6, none⟩ (.int .i64 (h.hash + 1))).setCell ⟨w.heap.size + 1, 7, none⟩ (.slice (some ⟨g3, 0, none⟩) h.kept.length h.kept.length)) g1 (((h.words.set h.eden.toNat n).set (h.eden.toNat + 1) k).set (h.eden.toNat + 2) h.hash) 3200 := (RI.setOther (RI.setOther (RI.setOther (RI.setOther (RI.setOther (RI.setOther (RI.setOther (RI.setOther S1 (by omega) _) (by omega) _) (by omega) _) (by omega) _) (by omega) _) (by omega) _) (by omega) _) (by omega) _)
    have T2 : RI ((((((((w6.setCell ⟨w.heap.size + 1, 0, none⟩ (.slice (some ⟨g1, 0, none⟩) 3200 3200)).setCell ⟨w.heap.size + 1, 1, none⟩ (.slice (some ⟨g2, 0, none⟩) h.roots.length h.roots.length)).setCell ⟨w.heap.size + 1, 2, none⟩ (.int .i64 h.old)).setCell ⟨w.heap.size + 1, 3, none⟩ (.int .i64 (h.eden + 4 + n))).setCell ⟨w.heap.size + 1, 4, none⟩ (.int .i64 h.surv)).setCell ⟨w.heap.size + 1, 5, none⟩ (.bool h.flip)).setCell ⟨w.heap.size + 1, 6, none⟩ (.int .i64 (h.hash + 1))).setCell ⟨w.heap.size + 1, 7, none⟩ (.slice (some ⟨g3, 0, none⟩) h.kept.length h.kept.length)) g2 h.roots h.roots.length := (RI.setOther (RI.setOther (RI.setOther (RI.setOther (RI.setOther (RI.setOther (RI.setOther (RI.setOther S2 (by omega) _) (by omega) _) (by omega) _) (by omega) _) (by omega) _) (by omega) _) (by omega) _) (by omega) _)
    have T3 : RI ((((((((w6.setCell ⟨w.heap.size + 1, 0, none⟩ (.slice (some ⟨g1, 0, none⟩) 3200 3200)).setCell ⟨w.heap.size + 1, 1, none⟩ (.slice (some ⟨g2, 0, none⟩) h.roots.length h.roots.length)).setCell ⟨w.heap.size + 1, 2, none⟩ (.int .i64 h.old)).setCell ⟨w.heap.size + 1, 3, none⟩ (.int .i64 (h.eden + 4 + n))).setCell ⟨w.heap.size + 1, 4, none⟩ (.int .i64 h.surv)).setCell ⟨w.heap.size + 1, 5, none⟩ (.bool h.flip)).setCell ⟨w.heap.size + 1, 6, none⟩ (.int .i64 (h.hash + 1))).setCell ⟨w.heap.size + 1, 7, none⟩ (.slice (some ⟨g3, 0, none⟩) h.kept.length h.kept.length)) g3 h.kept h.kept.length := (RI.setOther (RI.setOther (RI.setOther (RI.setOther (RI.setOther (RI.setOther (RI.setOther (RI.setOther S3 (by omega) _) (by omega) _) (by omega) _) (by omega) _) (by omega) _) (by omega) _) (by omega) _) (by omega) _)
    have B9 : Below w.heap.size w ((((((((w6.setCell ⟨w.heap.size + 1, 0, none⟩ (.slice (some ⟨g1, 0, none⟩) 3200 3200)).setCell ⟨w.heap.size + 1, 1, none⟩ (.slice (some ⟨g2, 0, none⟩) h.roots.length h.roots.length)).setCell ⟨w.heap.size + 1, 2, none⟩ (.int .i64 h.old)).setCell ⟨w.heap.size + 1, 3, none⟩ (.int .i64 (h.eden + 4 + n))).setCell ⟨w.heap.size + 1, 4, none⟩ (.int .i64 h.surv)).setCell ⟨w.heap.size + 1, 5, none⟩ (.bool h.flip)).setCell ⟨w.heap.size + 1, 6, none⟩ (.int .i64 (h.hash + 1))).setCell ⟨w.heap.size + 1, 7, none⟩ (.slice (some ⟨g3, 0, none⟩) h.kept.length h.kept.length)) := by
      repeat (refine Below.setCell ?_ (p := ⟨w.heap.size + 1, _, none⟩) (Nat.le_succ _) _)
      exact hb5
    have HF : HN w.heap.size ((((((((w6.setCell ⟨w.heap.size + 1, 0, none⟩ (.slice (some ⟨g1, 0, none⟩) 3200 3200)).setCell ⟨w.heap.size + 1, 1, none⟩ (.slice (some ⟨g2, 0, none⟩) h.roots.length h.roots.length)).setCell ⟨w.heap.size + 1, 2, none⟩ (.int .i64 h.old)).setCell ⟨w.heap.size + 1, 3, none⟩ (.int .i64 (h.eden + 4 + n))).setCell ⟨w.heap.size + 1, 4, none⟩ (.int .i64 h.surv)).setCell ⟨w.heap.size + 1, 5, none⟩ (.bool h.flip)).setCell ⟨w.heap.size + 1, 6, none⟩ (.int .i64 (h.hash + 1))).setCell ⟨w.heap.size + 1, 7, none⟩ (.slice (some ⟨g3, 0, none⟩) h.kept.length h.kept.length)) (.agg #[.slice (some ⟨g1, 0, none⟩) 3200 3200, .slice (some ⟨g2, 0, none⟩) h.roots.length h.roots.length, .int .i64 h.old, .int .i64 (h.eden + 4 + n), .int .i64 h.surv, .bool h.flip, .int .i64 (h.hash + 1), .slice (some ⟨g3, 0, none⟩) h.kept.length h.kept.length]) (newC h k n) := by
      rw [new_yes AB]
      have q := HN.of_rows (h := newHp h k n) (B := w.heap.size) T1 T2 T3 (by omega) (by omega) (by omega) (by omega) (by omega) (by omega)
      rw [show (newHp h k n).words.length = 3200 from by simp [newHp, ok1]] at q
      exact q
    have NW := new_w1 AB
    clear T1 T2 T3 S1 S2 S3 P2 P3 M2 M3 L3 R2 R4 R5 R6 D2 D4 q1 q2 q3
    go_wp2_with (go_at_call 69; refine (RW _).mono ?_; rintro e wq ⟨rfl, hq⟩; obtain rfl := hq.symm)
    exact bodyPost_ret (v := .tuple #[.agg #[.slice (some ⟨g1, 0, none⟩) 3200 3200, .slice (some ⟨g2, 0, none⟩) h.roots.length h.roots.length, .int .i64 h.old, .int .i64 (h.eden + 4 + n), .int .i64 h.surv, .bool h.flip, .int .i64 (h.hash + 1), .slice (some ⟨g3, 0, none⟩) h.kept.length h.kept.length], .int .i64 (2 * h.eden + 1), .bool true]) (by simp [results, Tryz.results35, go_sem, r0, r1, r2, r3, r4, r5, r6, r7]) rfl ⟨⟨_, by rw [AB, NW], HF⟩, B9⟩
  · have AB : newB h k n = false := by unfold newB; rw [hk]; rfl
    have al := bel_one w1 (.cells #[.slice none 0 0, .slice none 0 0, .slice none 0 0, .int .i64 0, .int .i64 0, .int .i64 0, .bool false, .int .i64 0, .slice none 0 0] 72)
    have hbA := bel_after hbw1 al
    have R2 := R1.of_block (al.block _ R1.lt)
    clear R1
    have r0 := R2.cell (i := 0) (by omega)
    have r1 := R2.cell (i := 1) (by omega)
    have r2 := R2.cell (i := 2) (by omega)
    have r3 := R2.cell (i := 3) (by omega)
    have r4 := R2.cell (i := 4) (by omega)
    have r5 := R2.cell (i := 5) (by omega)
    have r6 := R2.cell (i := 6) (by omega)
    have r7 := R2.cell (i := 7) (by omega)
    have fR := fun i => R2.frozen i
    have ltR := R2.lt
    have B9 : Below w.heap.size w (((((((((w1.alloc (.cells #[.slice none 0 0, .slice none 0 0, .slice none 0 0, .int .i64 0, .int .i64 0, .int .i64 0, .bool false, .int .i64 0, .slice none 0 0] 72)).setCell ⟨w.heap.size + 1, 0, none⟩ (.slice none 0 0)).setCell ⟨w.heap.size + 1, 1, none⟩ (.slice none 0 0)).setCell ⟨w.heap.size + 1, 2, none⟩ (.int .i64 0)).setCell ⟨w.heap.size + 1, 3, none⟩ (.int .i64 0)).setCell ⟨w.heap.size + 1, 4, none⟩ (.int .i64 0)).setCell ⟨w.heap.size + 1, 5, none⟩ (.bool false)).setCell ⟨w.heap.size + 1, 6, none⟩ (.int .i64 0)).setCell ⟨w.heap.size + 1, 7, none⟩ (.slice none 0 0)) := by
      repeat (refine Below.setCell ?_ (p := ⟨w.heap.size + 1, _, none⟩) (Nat.le_succ _) _)
      exact hbA
    go_wp2
    exact bodyPost_ret (v := .tuple #[.agg #[.slice none 0 0, .slice none 0 0, .int .i64 0, .int .i64 0, .int .i64 0, .bool false, .int .i64 0, .slice none 0 0], .int .i64 0, .bool false]) (by simp [results, Tryz.results35, go_sem, r0, r1, r2, r3, r4, r5, r6, r7]) rfl ⟨⟨_, zero_ret3 AB (new_no AB) (new_w0 AB)⟩, B9⟩

end Go.Proofs.YtgacacbncefeaaaGreat
