/- Forward and Exchange of the model. -/
import Derived.Test.YthdffigckohpoaaGreatZBChS
import Derived.Test.YthdffigckohpoaaGreatZU17
namespace Go.Proofs.YthdffigckohpoaaGreat
open Go.RowKit

theorem fwd_chg (a b : Int) : chg a b b b = fwd a b := by
  funext z
  unfold chg fwd
  split
  · rfl
  · split
    · exact (by assumption : z = b).symm
    · rfl
theorem fwd_same (a x : Int) : fwd a a x = x := by
  unfold fwd
  split
  · exact (by assumption : x = a).symm
  · rfl
set_option maxRecDepth 100000 in
set_option maxHeartbeats 6400000 in
theorem specForward_m (v : Value) (h : Hp) (a b : Int) (w : World) (hv : HR w v h) (hwo : h.words.length ≤ 1000000000000) (hro : h.roots.length ≤ 1000000000000) (hke : h.kept.length ≤ 1000000000000) (hxa : In64 a) (hxb : In64 b) :
    Calls Tryz.prog 29 #[v, .int .i64 a, .int .i64 b] w fun e w' => (∃ u, e = .returned (.tuple #[u, .bool (befB h a b)]) ∧ HM w.heap.size w' u (beC (fwd a b) h a b)) ∧ Below w.heap.size w w' := by
  obtain ⟨v1, v2, v3, rfl, i1, i2, i3⟩ := id hv
  obtain ⟨a1, c1, rfl, -⟩ := IRs i1
  obtain ⟨a2, c2, rfl, -⟩ := IRs i2
  obtain ⟨a3, c3, rfl, -⟩ := IRs i3
  have S0 := CS.new w (.slice a1 h.words.length c1) (.slice a2 h.roots.length c2) (.int .i64 h.old) (.int .i64 h.eden) (.int .i64 h.surv) (.bool h.flip) (.int .i64 h.hash) (.slice a3 h.kept.length c3)
  have C := specHeapOk_c _ h _ (hv.later S0.bel) hro hke
  obtain ⟨s0, s1, s2, s3, s4, s5, s6, s7⟩ : _ ∧ _ ∧ _ ∧ _ ∧ _ ∧ _ ∧ _ ∧ _ := ⟨S0.c0, S0.c1, S0.c2, S0.c3, S0.c4, S0.c5, S0.c6, S0.c7⟩
  clear i1 i2 i3
  go_enter Tryz.func29, Tryz.ntmps29
  go_wp2_with fail
  refine C.mono ?_
  rintro e w1 ⟨rfl, hb1⟩
  have S1 := S0.later hb1
  clear C S0 hb1 s0 s1 s2 s3 s4 s5 s6 s7
  cases hk : okC h
  · have AB : befB h a b = false := by unfold befB; rw [hk]; rfl
    obtain ⟨fk, K⟩ := S1.res
    have r0 := K.cell (i := 0) (by omega)
    have r1 := K.cell (i := 1) (by omega)
    have r2 := K.cell (i := 2) (by omega)
    have r3 := K.cell (i := 3) (by omega)
    have r4 := K.cell (i := 4) (by omega)
    have r5 := K.cell (i := 5) (by omega)
    have r6 := K.cell (i := 6) (by omega)
    have r7 := K.cell (i := 7) (by omega)
    have fR := fun i => K.frozen i
    have ltR := K.lt
    have B9 : Below w.heap.size w ((((((((w1.setCell ⟨w.heap.size + 1, 0, none⟩ (.slice none 0 0)).setCell ⟨w.heap.size + 1, 1, none⟩ (.slice none 0 0)).setCell ⟨w.heap.size + 1, 2, none⟩ (.int .i64 0)).setCell ⟨w.heap.size + 1, 3, none⟩ (.int .i64 0)).setCell ⟨w.heap.size + 1, 4, none⟩ (.int .i64 0)).setCell ⟨w.heap.size + 1, 5, none⟩ (.bool false)).setCell ⟨w.heap.size + 1, 6, none⟩ (.int .i64 0)).setCell ⟨w.heap.size + 1, 7, none⟩ (.slice none 0 0)) := by
      repeat (refine Below.setCell ?_ (p := ⟨w.heap.size + 1, _, none⟩) (Nat.le_succ _) _)
      exact S1.bel
    obtain ⟨s0, s1, s2, s3, s4, s5, s6, s7⟩ : _ ∧ _ ∧ _ ∧ _ ∧ _ ∧ _ ∧ _ ∧ _ := ⟨S1.c0, S1.c1, S1.c2, S1.c3, S1.c4, S1.c5, S1.c6, S1.c7⟩
    clear K S1
    go_wp2
    exact bodyPost_ret (v := .tuple #[.agg #[.slice none 0 0, .slice none 0 0, .int .i64 0, .int .i64 0, .int .i64 0, .bool false, .int .i64 0, .slice none 0 0], .bool false]) (by simp [results, Tryz.results29, go_sem, r0, r1, r2, r3, r4, r5, r6, r7]) rfl ⟨⟨_, zero_retm AB (be_no AB)⟩, B9⟩
  have L8 := fun (x : Int) (hx : In64 x) (W : World) (hb : Below w.heap.size w W) => l8At_c _ h x W (hv.later hb) hk hx
  have NEG : ∀ x : Int, Hid (atC h x = if refB h x = true then x / 2 else -1) := fun x => (rfl : _ = _)
  have POS : ∀ x : Int, Hid (refB h x = true → ¬ atC h x < 0) := fun x q => by
    obtain ⟨_, z, _, e⟩ := ref_mem q
    rw [(NEG x).out, q, if_pos rfl]
    omega
  obtain ⟨s0, s1, s2, s3, s4, s5, s6, s7⟩ : _ ∧ _ ∧ _ ∧ _ ∧ _ ∧ _ ∧ _ ∧ _ := ⟨S1.c0, S1.c1, S1.c2, S1.c3, S1.c4, S1.c5, S1.c6, S1.c7⟩
  go_wp2_with fail
  refine (L8 a hxa _ S1.bel).mono ?_
  rintro e w2 ⟨rfl, hb2⟩
  have S2 := S1.later hb2
  clear S1 hb2 s0 s1 s2 s3 s4 s5 s6 s7
  cases hra : refB h a
  · have na : atC h a = -1 := by rw [(NEG a).out, hra]; rfl
    rw [na]
    have AB : befB h a b = false := by unfold befB; rw [hk, hra]; rfl
    obtain ⟨fk, K⟩ := S2.res
    have r0 := K.cell (i := 0) (by omega)
    have r1 := K.cell (i := 1) (by omega)
    have r2 := K.cell (i := 2) (by omega)
    have r3 := K.cell (i := 3) (by omega)
    have r4 := K.cell (i := 4) (by omega)
    have r5 := K.cell (i := 5) (by omega)
    have r6 := K.cell (i := 6) (by omega)
    have r7 := K.cell (i := 7) (by omega)
    have fR := fun i => K.frozen i
    have ltR := K.lt
    have B9 : Below w.heap.size w ((((((((w2.setCell ⟨w.heap.size + 1, 0, none⟩ (.slice none 0 0)).setCell ⟨w.heap.size + 1, 1, none⟩ (.slice none 0 0)).setCell ⟨w.heap.size + 1, 2, none⟩ (.int .i64 0)).setCell ⟨w.heap.size + 1, 3, none⟩ (.int .i64 0)).setCell ⟨w.heap.size + 1, 4, none⟩ (.int .i64 0)).setCell ⟨w.heap.size + 1, 5, none⟩ (.bool false)).setCell ⟨w.heap.size + 1, 6, none⟩ (.int .i64 0)).setCell ⟨w.heap.size + 1, 7, none⟩ (.slice none 0 0)) := by
      repeat (refine Below.setCell ?_ (p := ⟨w.heap.size + 1, _, none⟩) (Nat.le_succ _) _)
      exact S2.bel
    obtain ⟨s0, s1, s2, s3, s4, s5, s6, s7⟩ : _ ∧ _ ∧ _ ∧ _ ∧ _ ∧ _ ∧ _ ∧ _ := ⟨S2.c0, S2.c1, S2.c2, S2.c3, S2.c4, S2.c5, S2.c6, S2.c7⟩
    clear K S2
    go_wp2
    exact bodyPost_ret (v := .tuple #[.agg #[.slice none 0 0, .slice none 0 0, .int .i64 0, .int .i64 0, .int .i64 0, .bool false, .int .i64 0, .slice none 0 0], .bool false]) (by simp [results, Tryz.results29, go_sem, r0, r1, r2, r3, r4, r5, r6, r7]) rfl ⟨⟨_, zero_retm AB (be_no AB)⟩, B9⟩
  have pa := (POS a).out hra
  generalize atC h a = ata at pa ⊢
  obtain ⟨s0, s1, s2, s3, s4, s5, s6, s7⟩ : _ ∧ _ ∧ _ ∧ _ ∧ _ ∧ _ ∧ _ ∧ _ := ⟨S2.c0, S2.c1, S2.c2, S2.c3, S2.c4, S2.c5, S2.c6, S2.c7⟩
  go_wp2_with fail
  refine (L8 b hxb _ S2.bel).mono ?_
  rintro e w3 ⟨rfl, hb3⟩
  have S3 := S2.later hb3
  clear S2 hb3 s0 s1 s2 s3 s4 s5 s6 s7
  cases hrb : refB h b
  · have nb : atC h b = -1 := by rw [(NEG b).out, hrb]; rfl
    rw [nb]
    have AB : befB h a b = false := by unfold befB; rw [hk, hra, hrb]; rfl
    obtain ⟨fk, K⟩ := S3.res
    have r0 := K.cell (i := 0) (by omega)
    have r1 := K.cell (i := 1) (by omega)
    have r2 := K.cell (i := 2) (by omega)
    have r3 := K.cell (i := 3) (by omega)
    have r4 := K.cell (i := 4) (by omega)
    have r5 := K.cell (i := 5) (by omega)
    have r6 := K.cell (i := 6) (by omega)
    have r7 := K.cell (i := 7) (by omega)
    have fR := fun i => K.frozen i
    have ltR := K.lt
    have B9 : Below w.heap.size w ((((((((w3.setCell ⟨w.heap.size + 1, 0, none⟩ (.slice none 0 0)).setCell ⟨w.heap.size + 1, 1, none⟩ (.slice none 0 0)).setCell ⟨w.heap.size + 1, 2, none⟩ (.int .i64 0)).setCell ⟨w.heap.size + 1, 3, none⟩ (.int .i64 0)).setCell ⟨w.heap.size + 1, 4, none⟩ (.int .i64 0)).setCell ⟨w.heap.size + 1, 5, none⟩ (.bool false)).setCell ⟨w.heap.size + 1, 6, none⟩ (.int .i64 0)).setCell ⟨w.heap.size + 1, 7, none⟩ (.slice none 0 0)) := by
      repeat (refine Below.setCell ?_ (p := ⟨w.heap.size + 1, _, none⟩) (Nat.le_succ _) _)
      exact S3.bel
    obtain ⟨s0, s1, s2, s3, s4, s5, s6, s7⟩ : _ ∧ _ ∧ _ ∧ _ ∧ _ ∧ _ ∧ _ ∧ _ := ⟨S3.c0, S3.c1, S3.c2, S3.c3, S3.c4, S3.c5, S3.c6, S3.c7⟩
    clear K S3
    go_wp2
    exact bodyPost_ret (v := .tuple #[.agg #[.slice none 0 0, .slice none 0 0, .int .i64 0, .int .i64 0, .int .i64 0, .bool false, .int .i64 0, .slice none 0 0], .bool false]) (by simp [results, Tryz.results29, go_sem, r0, r1, r2, r3, r4, r5, r6, r7]) rfl ⟨⟨_, zero_retm AB (be_no AB)⟩, B9⟩
  have pb := (POS b).out hrb
  generalize atC h b = atb at pb ⊢
  have AB : befB h a b = true := by unfold befB; rw [hk, hra, hrb]; rfl
  have FIT := fun z (hz : fitB (obC h) z = true) => fwd_fit (a := a) hrb z hz
  clear L8 NEG POS hra hrb
  obtain ⟨s0, s1, s2, s3, s4, s5, s6, s7⟩ : _ ∧ _ ∧ _ ∧ _ ∧ _ ∧ _ ∧ _ ∧ _ := ⟨S3.c0, S3.c1, S3.c2, S3.c3, S3.c4, S3.c5, S3.c6, S3.c7⟩
  by_cases hab : a = b
  · have D : (a == b) = true := by simp [hab]
    have HE : Hid (beH (fwd a b) h = h) := (by subst hab; exact be_id hk (fwd_same a) : beH (fwd a b) h = h)
    have CP := l5Copy_any _ h _ (hv.later S3.bel) hwo hro hke
    clear hab FIT
    go_wp2_with fail
    refine CP.mono ?_
    rintro e w4 ⟨⟨g1, d1, g2, d2, g3, d3, rfl, ⟨q1, q2, q3⟩, ⟨l0, l1, l2⟩, ⟨m1, m2, m3⟩⟩, hb4⟩
    have S4 := S3.later hb4
    have lt3 := S3.lt
    have hm : HM w3.heap.size w4 _ h := HM.of_rows q1 q2 q3 m1 m2 m3 l0 (by omega) (by omega) (by omega) (by omega) (by omega)
    clear CP S3 hb4 s0 s1 s2 s3 s4 s5 s6 s7 hv q1 q2 q3
    obtain ⟨B4, hB4⟩ : ∃ B4, B4 = w3.heap.size := ⟨_, rfl⟩
    rw [← hB4] at hm lt3
    clear hB4 l0
    obtain ⟨r, hr⟩ : ∃ r, r = h := ⟨_, rfl⟩
    replace HE : Hid (beH (fwd a b) h = r) := HE.out.trans hr.symm
    have hm' : HM B4 w4 (.agg #[.slice (some ⟨g1, 0, none⟩) h.words.length d1, .slice (some ⟨g2, 0, none⟩) h.roots.length d2, .int .i64 h.old, .int .i64 h.eden, .int .i64 h.surv, .bool h.flip, .int .i64 h.hash, .slice (some ⟨g3, 0, none⟩) h.kept.length d3]) r := by rw [hr]; exact hm
    clear hr hm
    generalize (Value.agg #[.slice (some ⟨g1, 0, none⟩) h.words.length d1, .slice (some ⟨g2, 0, none⟩) h.roots.length d2, .int .i64 h.old, .int .i64 h.eden, .int .i64 h.surv, .bool h.flip, .int .i64 h.hash, .slice (some ⟨g3, 0, none⟩) h.kept.length d3]) = u at hm' ⊢
    obtain ⟨o1, k1, o2, k2, o3, k3, rfl, -⟩ := hm'.hn.out
    obtain ⟨fk, K⟩ := S4.res
    have ltW := S4.lt
    have BW := S4.bel
    have HNN : Hid (HM B4 w4 (.agg #[.slice o1 r.words.length k1, .slice o2 r.roots.length k2, .int .i64 r.old, .int .i64 r.eden, .int .i64 r.surv, .bool r.flip, .int .i64 r.hash, .slice o3 r.kept.length k3]) r) := hm'
    clear hm'
    generalize r.words.length = n1 at *
    generalize r.roots.length = n2 at *
    generalize r.kept.length = n3 at *
    generalize r.old = z1 at *
    generalize r.eden = z2 at *
    generalize r.surv = z3 at *
    generalize r.flip = z4 at *
    generalize r.hash = z5 at *
    have OKC : (#[.slice o1 n1 k1, .slice o2 n2 k2, .int .i64 z1, .int .i64 z2, .int .i64 z3, .bool z4, .int .i64 z5, .slice o3 n3 k3] : Array Value).all (·.oneCell') = true := by simp [Value.oneCell']
    go_wp2_with ((with_reducible refine store_box _ ?_ (.tmp 6) (.tmp 28) 26 ?_ 26 (w.heap.size + 1) 8 #[.slice o1 n1 k1, .slice o2 n2 k2, .int .i64 z1, .int .i64 z2, .int .i64 z3, .bool z4, .int .i64 z5, .slice o3 n3 k3] _ ?_ ?_ K ?_ ?_ OKC ?_); rfl; rfl; rfl; rfl; rfl; kernel_rfl; intro wA KA GA; have r0 : wA.cell? ⟨w.heap.size + 1, 0, none⟩ = some (.slice o1 n1 k1) := KA.cell (i := 0) (by omega); have r1 : wA.cell? ⟨w.heap.size + 1, 1, none⟩ = some (.slice o2 n2 k2) := KA.cell (i := 1) (by omega); have r2 : wA.cell? ⟨w.heap.size + 1, 2, none⟩ = some (.int .i64 z1) := KA.cell (i := 2) (by omega); have r3 : wA.cell? ⟨w.heap.size + 1, 3, none⟩ = some (.int .i64 z2) := KA.cell (i := 3) (by omega); have r4 : wA.cell? ⟨w.heap.size + 1, 4, none⟩ = some (.int .i64 z3) := KA.cell (i := 4) (by omega); have r5 : wA.cell? ⟨w.heap.size + 1, 5, none⟩ = some (.bool z4) := KA.cell (i := 5) (by omega); have r6 : wA.cell? ⟨w.heap.size + 1, 6, none⟩ = some (.int .i64 z5) := KA.cell (i := 6) (by omega); have r7 : wA.cell? ⟨w.heap.size + 1, 7, none⟩ = some (.slice o3 n3 k3) := KA.cell (i := 7) (by omega))
    have BA : Below w.heap.size w wA := Below.grown BW GA BW.size (fun q hq => by cases hq; omega)
    have HF := (HNN.out.keep (w' := wA) (fun z h1 h2 => GA.block z h2 (by intro e; cases e; omega))).low (C := w.heap.size) (by omega)
    exact bodyPost_ret (v := .tuple #[.agg #[.slice o1 n1 k1, .slice o2 n2 k2, .int .i64 z1, .int .i64 z2, .int .i64 z3, .bool z4, .int .i64 z5, .slice o3 n3 k3], .bool true]) (by simp [results, Tryz.results29, go_sem, r0, r1, r2, r3, r4, r5, r6, r7]) rfl ⟨⟨_, by rw [AB], by rw [be_yes AB, HE.out]; exact HF⟩, BA⟩
  · have D : (a == b) = false := by simp [hab]
    have CH := l11Change_c _ h a b b b _ (hv.later S3.bel) hk (by rw [fwd_chg]; exact FIT)
    rw [fwd_chg] at CH
    clear hab FIT
    go_wp2_with fail
    refine CH.mono ?_
    rintro e w4 ⟨⟨u, rfl, hm⟩, hb4⟩
    have S4 := S3.later hb4
    have lt3 := S3.lt
    clear CH S3 hb4 s0 s1 s2 s3 s4 s5 s6 s7 hv
    obtain ⟨B4, hB4⟩ : ∃ B4, B4 = w3.heap.size := ⟨_, rfl⟩
    rw [← hB4] at hm lt3
    clear hB4
    generalize hr : beH (fwd a b) h = r at *
    have HE : Hid (beH (fwd a b) h = r) := hr
    clear hr
    obtain ⟨o1, k1, o2, k2, o3, k3, rfl, -⟩ := hm.hn.out
    obtain ⟨fk, K⟩ := S4.res
    have ltW := S4.lt
    have BW := S4.bel
    have HNN : Hid (HM B4 w4 (.agg #[.slice o1 r.words.length k1, .slice o2 r.roots.length k2, .int .i64 r.old, .int .i64 r.eden, .int .i64 r.surv, .bool r.flip, .int .i64 r.hash, .slice o3 r.kept.length k3]) r) := hm
    clear hm
    generalize r.words.length = n1 at *
    generalize r.roots.length = n2 at *
    generalize r.kept.length = n3 at *
    generalize r.old = z1 at *
    generalize r.eden = z2 at *
    generalize r.surv = z3 at *
    generalize r.flip = z4 at *
    generalize r.hash = z5 at *
    have OKC : (#[.slice o1 n1 k1, .slice o2 n2 k2, .int .i64 z1, .int .i64 z2, .int .i64 z3, .bool z4, .int .i64 z5, .slice o3 n3 k3] : Array Value).all (·.oneCell') = true := by simp [Value.oneCell']
    go_wp2_with ((with_reducible refine store_box _ ?_ (.tmp 6) (.tmp 34) 26 ?_ 26 (w.heap.size + 1) 8 #[.slice o1 n1 k1, .slice o2 n2 k2, .int .i64 z1, .int .i64 z2, .int .i64 z3, .bool z4, .int .i64 z5, .slice o3 n3 k3] _ ?_ ?_ K ?_ ?_ OKC ?_); rfl; rfl; rfl; rfl; rfl; kernel_rfl; intro wA KA GA; have r0 : wA.cell? ⟨w.heap.size + 1, 0, none⟩ = some (.slice o1 n1 k1) := KA.cell (i := 0) (by omega); have r1 : wA.cell? ⟨w.heap.size + 1, 1, none⟩ = some (.slice o2 n2 k2) := KA.cell (i := 1) (by omega); have r2 : wA.cell? ⟨w.heap.size + 1, 2, none⟩ = some (.int .i64 z1) := KA.cell (i := 2) (by omega); have r3 : wA.cell? ⟨w.heap.size + 1, 3, none⟩ = some (.int .i64 z2) := KA.cell (i := 3) (by omega); have r4 : wA.cell? ⟨w.heap.size + 1, 4, none⟩ = some (.int .i64 z3) := KA.cell (i := 4) (by omega); have r5 : wA.cell? ⟨w.heap.size + 1, 5, none⟩ = some (.bool z4) := KA.cell (i := 5) (by omega); have r6 : wA.cell? ⟨w.heap.size + 1, 6, none⟩ = some (.int .i64 z5) := KA.cell (i := 6) (by omega); have r7 : wA.cell? ⟨w.heap.size + 1, 7, none⟩ = some (.slice o3 n3 k3) := KA.cell (i := 7) (by omega))
    have BA : Below w.heap.size w wA := Below.grown BW GA BW.size (fun q hq => by cases hq; omega)
    have HF := (HNN.out.keep (w' := wA) (fun z h1 h2 => GA.block z h2 (by intro e; cases e; omega))).low (C := w.heap.size) (by omega)
    exact bodyPost_ret (v := .tuple #[.agg #[.slice o1 n1 k1, .slice o2 n2 k2, .int .i64 z1, .int .i64 z2, .int .i64 z3, .bool z4, .int .i64 z5, .slice o3 n3 k3], .bool true]) (by simp [results, Tryz.results29, go_sem, r0, r1, r2, r3, r4, r5, r6, r7]) rfl ⟨⟨_, by rw [AB], by rw [be_yes AB, HE.out]; exact HF⟩, BA⟩

theorem specForward_c (v : Value) (h : Hp) (a b : Int) (w : World) (hv : HR w v h) (hwo : h.words.length ≤ 1000000000000) (hro : h.roots.length ≤ 1000000000000) (hke : h.kept.length ≤ 1000000000000) (hxa : In64 a) (hxb : In64 b) :
    Calls Tryz.prog 29 #[v, .int .i64 a, .int .i64 b] w fun e w' => (∃ u, e = .returned (.tuple #[u, .bool (befB h a b)]) ∧ HN w.heap.size w' u (beC (fwd a b) h a b)) ∧ Below w.heap.size w w' :=
  (specForward_m v h a b w hv hwo hro hke hxa hxb).mono fun _ _ ⟨⟨u, e, k⟩, b⟩ => ⟨⟨u, e, k.hn⟩, b⟩

theorem exg_chg (a b : Int) : chg a b b a = exg a b := by
  funext z
  unfold chg exg
  rfl
theorem exg_same (a x : Int) : exg a a x = x := by
  unfold exg
  split
  · exact (by assumption : x = a).symm
  · rfl
set_option maxRecDepth 100000 in
set_option maxHeartbeats 6400000 in
theorem specExchange_m (v : Value) (h : Hp) (a b : Int) (w : World) (hv : HR w v h) (hwo : h.words.length ≤ 1000000000000) (hro : h.roots.length ≤ 1000000000000) (hke : h.kept.length ≤ 1000000000000) (hxa : In64 a) (hxb : In64 b) :
    Calls Tryz.prog 25 #[v, .int .i64 a, .int .i64 b] w fun e w' => (∃ u, e = .returned (.tuple #[u, .bool (befB h a b)]) ∧ HM w.heap.size w' u (beC (exg a b) h a b)) ∧ Below w.heap.size w w' := by
  obtain ⟨v1, v2, v3, rfl, i1, i2, i3⟩ := id hv
  obtain ⟨a1, c1, rfl, -⟩ := IRs i1
  obtain ⟨a2, c2, rfl, -⟩ := IRs i2
  obtain ⟨a3, c3, rfl, -⟩ := IRs i3
  have S0 := CS.new w (.slice a1 h.words.length c1) (.slice a2 h.roots.length c2) (.int .i64 h.old) (.int .i64 h.eden) (.int .i64 h.surv) (.bool h.flip) (.int .i64 h.hash) (.slice a3 h.kept.length c3)
  have C := specHeapOk_c _ h _ (hv.later S0.bel) hro hke
  obtain ⟨s0, s1, s2, s3, s4, s5, s6, s7⟩ : _ ∧ _ ∧ _ ∧ _ ∧ _ ∧ _ ∧ _ ∧ _ := ⟨S0.c0, S0.c1, S0.c2, S0.c3, S0.c4, S0.c5, S0.c6, S0.c7⟩
  clear i1 i2 i3
  go_enter Tryz.func25, Tryz.ntmps25
  go_wp2_with fail
  refine C.mono ?_
  rintro e w1 ⟨rfl, hb1⟩
  have S1 := S0.later hb1
  clear C S0 hb1 s0 s1 s2 s3 s4 s5 s6 s7
  cases hk : okC h
  · have AB : befB h a b = false := by unfold befB; rw [hk]; rfl
    obtain ⟨fk, K⟩ := S1.res
    have r0 := K.cell (i := 0) (by omega)
    have r1 := K.cell (i := 1) (by omega)
    have r2 := K.cell (i := 2) (by omega)
    have r3 := K.cell (i := 3) (by omega)
    have r4 := K.cell (i := 4) (by omega)
    have r5 := K.cell (i := 5) (by omega)
    have r6 := K.cell (i := 6) (by omega)
    have r7 := K.cell (i := 7) (by omega)
    have fR := fun i => K.frozen i
    have ltR := K.lt
    have B9 : Below w.heap.size w ((((((((w1.setCell ⟨w.heap.size + 1, 0, none⟩ (.slice none 0 0)).setCell ⟨w.heap.size + 1, 1, none⟩ (.slice none 0 0)).setCell ⟨w.heap.size + 1, 2, none⟩ (.int .i64 0)).setCell ⟨w.heap.size + 1, 3, none⟩ (.int .i64 0)).setCell ⟨w.heap.size + 1, 4, none⟩ (.int .i64 0)).setCell ⟨w.heap.size + 1, 5, none⟩ (.bool false)).setCell ⟨w.heap.size + 1, 6, none⟩ (.int .i64 0)).setCell ⟨w.heap.size + 1, 7, none⟩ (.slice none 0 0)) := by
      repeat (refine Below.setCell ?_ (p := ⟨w.heap.size + 1, _, none⟩) (Nat.le_succ _) _)
      exact S1.bel
    obtain ⟨s0, s1, s2, s3, s4, s5, s6, s7⟩ : _ ∧ _ ∧ _ ∧ _ ∧ _ ∧ _ ∧ _ ∧ _ := ⟨S1.c0, S1.c1, S1.c2, S1.c3, S1.c4, S1.c5, S1.c6, S1.c7⟩
    clear K S1
    go_wp2
    exact bodyPost_ret (v := .tuple #[.agg #[.slice none 0 0, .slice none 0 0, .int .i64 0, .int .i64 0, .int .i64 0, .bool false, .int .i64 0, .slice none 0 0], .bool false]) (by simp [results, Tryz.results25, go_sem, r0, r1, r2, r3, r4, r5, r6, r7]) rfl ⟨⟨_, zero_retm AB (be_no AB)⟩, B9⟩
  have L8 := fun (x : Int) (hx : In64 x) (W : World) (hb : Below w.heap.size w W) => l8At_c _ h x W (hv.later hb) hk hx
  have NEG : ∀ x : Int, Hid (atC h x = if refB h x = true then x / 2 else -1) := fun x => (rfl : _ = _)
  have POS : ∀ x : Int, Hid (refB h x = true → ¬ atC h x < 0) := fun x q => by
    obtain ⟨_, z, _, e⟩ := ref_mem q
    rw [(NEG x).out, q, if_pos rfl]
    omega
  obtain ⟨s0, s1, s2, s3, s4, s5, s6, s7⟩ : _ ∧ _ ∧ _ ∧ _ ∧ _ ∧ _ ∧ _ ∧ _ := ⟨S1.c0, S1.c1, S1.c2, S1.c3, S1.c4, S1.c5, S1.c6, S1.c7⟩
  go_wp2_with fail
  refine (L8 a hxa _ S1.bel).mono ?_
  rintro e w2 ⟨rfl, hb2⟩
  have S2 := S1.later hb2
  clear S1 hb2 s0 s1 s2 s3 s4 s5 s6 s7
  cases hra : refB h a
  · have na : atC h a = -1 := by rw [(NEG a).out, hra]; rfl
    rw [na]
    have AB : befB h a b = false := by unfold befB; rw [hk, hra]; rfl
    obtain ⟨fk, K⟩ := S2.res
    have r0 := K.cell (i := 0) (by omega)
    have r1 := K.cell (i := 1) (by omega)
    have r2 := K.cell (i := 2) (by omega)
    have r3 := K.cell (i := 3) (by omega)
    have r4 := K.cell (i := 4) (by omega)
    have r5 := K.cell (i := 5) (by omega)
    have r6 := K.cell (i := 6) (by omega)
    have r7 := K.cell (i := 7) (by omega)
    have fR := fun i => K.frozen i
    have ltR := K.lt
    have B9 : Below w.heap.size w ((((((((w2.setCell ⟨w.heap.size + 1, 0, none⟩ (.slice none 0 0)).setCell ⟨w.heap.size + 1, 1, none⟩ (.slice none 0 0)).setCell ⟨w.heap.size + 1, 2, none⟩ (.int .i64 0)).setCell ⟨w.heap.size + 1, 3, none⟩ (.int .i64 0)).setCell ⟨w.heap.size + 1, 4, none⟩ (.int .i64 0)).setCell ⟨w.heap.size + 1, 5, none⟩ (.bool false)).setCell ⟨w.heap.size + 1, 6, none⟩ (.int .i64 0)).setCell ⟨w.heap.size + 1, 7, none⟩ (.slice none 0 0)) := by
      repeat (refine Below.setCell ?_ (p := ⟨w.heap.size + 1, _, none⟩) (Nat.le_succ _) _)
      exact S2.bel
    obtain ⟨s0, s1, s2, s3, s4, s5, s6, s7⟩ : _ ∧ _ ∧ _ ∧ _ ∧ _ ∧ _ ∧ _ ∧ _ := ⟨S2.c0, S2.c1, S2.c2, S2.c3, S2.c4, S2.c5, S2.c6, S2.c7⟩
    clear K S2
    go_wp2
    exact bodyPost_ret (v := .tuple #[.agg #[.slice none 0 0, .slice none 0 0, .int .i64 0, .int .i64 0, .int .i64 0, .bool false, .int .i64 0, .slice none 0 0], .bool false]) (by simp [results, Tryz.results25, go_sem, r0, r1, r2, r3, r4, r5, r6, r7]) rfl ⟨⟨_, zero_retm AB (be_no AB)⟩, B9⟩
  have pa := (POS a).out hra
  generalize atC h a = ata at pa ⊢
  obtain ⟨s0, s1, s2, s3, s4, s5, s6, s7⟩ : _ ∧ _ ∧ _ ∧ _ ∧ _ ∧ _ ∧ _ ∧ _ := ⟨S2.c0, S2.c1, S2.c2, S2.c3, S2.c4, S2.c5, S2.c6, S2.c7⟩
  go_wp2_with fail
  refine (L8 b hxb _ S2.bel).mono ?_
  rintro e w3 ⟨rfl, hb3⟩
  have S3 := S2.later hb3
  clear S2 hb3 s0 s1 s2 s3 s4 s5 s6 s7
  cases hrb : refB h b
  · have nb : atC h b = -1 := by rw [(NEG b).out, hrb]; rfl
    rw [nb]
    have AB : befB h a b = false := by unfold befB; rw [hk, hra, hrb]; rfl
    obtain ⟨fk, K⟩ := S3.res
    have r0 := K.cell (i := 0) (by omega)
    have r1 := K.cell (i := 1) (by omega)
    have r2 := K.cell (i := 2) (by omega)
    have r3 := K.cell (i := 3) (by omega)
    have r4 := K.cell (i := 4) (by omega)
    have r5 := K.cell (i := 5) (by omega)
    have r6 := K.cell (i := 6) (by omega)
    have r7 := K.cell (i := 7) (by omega)
    have fR := fun i => K.frozen i
    have ltR := K.lt
    have B9 : Below w.heap.size w ((((((((w3.setCell ⟨w.heap.size + 1, 0, none⟩ (.slice none 0 0)).setCell ⟨w.heap.size + 1, 1, none⟩ (.slice none 0 0)).setCell ⟨w.heap.size + 1, 2, none⟩ (.int .i64 0)).setCell ⟨w.heap.size + 1, 3, none⟩ (.int .i64 0)).setCell ⟨w.heap.size + 1, 4, none⟩ (.int .i64 0)).setCell ⟨w.heap.size + 1, 5, none⟩ (.bool false)).setCell ⟨w.heap.size + 1, 6, none⟩ (.int .i64 0)).setCell ⟨w.heap.size + 1, 7, none⟩ (.slice none 0 0)) := by
      repeat (refine Below.setCell ?_ (p := ⟨w.heap.size + 1, _, none⟩) (Nat.le_succ _) _)
      exact S3.bel
    obtain ⟨s0, s1, s2, s3, s4, s5, s6, s7⟩ : _ ∧ _ ∧ _ ∧ _ ∧ _ ∧ _ ∧ _ ∧ _ := ⟨S3.c0, S3.c1, S3.c2, S3.c3, S3.c4, S3.c5, S3.c6, S3.c7⟩
    clear K S3
    go_wp2
    exact bodyPost_ret (v := .tuple #[.agg #[.slice none 0 0, .slice none 0 0, .int .i64 0, .int .i64 0, .int .i64 0, .bool false, .int .i64 0, .slice none 0 0], .bool false]) (by simp [results, Tryz.results25, go_sem, r0, r1, r2, r3, r4, r5, r6, r7]) rfl ⟨⟨_, zero_retm AB (be_no AB)⟩, B9⟩
  have pb := (POS b).out hrb
  generalize atC h b = atb at pb ⊢
  have AB : befB h a b = true := by unfold befB; rw [hk, hra, hrb]; rfl
  have FIT := fun z (hz : fitB (obC h) z = true) => exg_fit hra hrb z hz
  clear L8 NEG POS hra hrb
  obtain ⟨s0, s1, s2, s3, s4, s5, s6, s7⟩ : _ ∧ _ ∧ _ ∧ _ ∧ _ ∧ _ ∧ _ ∧ _ := ⟨S3.c0, S3.c1, S3.c2, S3.c3, S3.c4, S3.c5, S3.c6, S3.c7⟩
  by_cases hab : a = b
  · have D : (a == b) = true := by simp [hab]
    have HE : Hid (beH (exg a b) h = h) := (by subst hab; exact be_id hk (exg_same a) : beH (exg a b) h = h)
    have CP := l5Copy_any _ h _ (hv.later S3.bel) hwo hro hke
    clear hab FIT
    go_wp2_with fail
    refine CP.mono ?_
    rintro e w4 ⟨⟨g1, d1, g2, d2, g3, d3, rfl, ⟨q1, q2, q3⟩, ⟨l0, l1, l2⟩, ⟨m1, m2, m3⟩⟩, hb4⟩
    have S4 := S3.later hb4
    have lt3 := S3.lt
    have hm : HM w3.heap.size w4 _ h := HM.of_rows q1 q2 q3 m1 m2 m3 l0 (by omega) (by omega) (by omega) (by omega) (by omega)
    clear CP S3 hb4 s0 s1 s2 s3 s4 s5 s6 s7 hv q1 q2 q3
    obtain ⟨B4, hB4⟩ : ∃ B4, B4 = w3.heap.size := ⟨_, rfl⟩
    rw [← hB4] at hm lt3
    clear hB4 l0
    obtain ⟨r, hr⟩ : ∃ r, r = h := ⟨_, rfl⟩
    replace HE : Hid (beH (exg a b) h = r) := HE.out.trans hr.symm
    have hm' : HM B4 w4 (.agg #[.slice (some ⟨g1, 0, none⟩) h.words.length d1, .slice (some ⟨g2, 0, none⟩) h.roots.length d2, .int .i64 h.old, .int .i64 h.eden, .int .i64 h.surv, .bool h.flip, .int .i64 h.hash, .slice (some ⟨g3, 0, none⟩) h.kept.length d3]) r := by rw [hr]; exact hm
    clear hr hm
    generalize (Value.agg #[.slice (some ⟨g1, 0, none⟩) h.words.length d1, .slice (some ⟨g2, 0, none⟩) h.roots.length d2, .int .i64 h.old, .int .i64 h.eden, .int .i64 h.surv, .bool h.flip, .int .i64 h.hash, .slice (some ⟨g3, 0, none⟩) h.kept.length d3]) = u at hm' ⊢
    obtain ⟨o1, k1, o2, k2, o3, k3, rfl, -⟩ := hm'.hn.out
    obtain ⟨fk, K⟩ := S4.res
    have ltW := S4.lt
    have BW := S4.bel
    have HNN : Hid (HM B4 w4 (.agg #[.slice o1 r.words.length k1, .slice o2 r.roots.length k2, .int .i64 r.old, .int .i64 r.eden, .int .i64 r.surv, .bool r.flip, .int .i64 r.hash, .slice o3 r.kept.length k3]) r) := hm'
    clear hm'
    generalize r.words.length = n1 at *
    generalize r.roots.length = n2 at *
    generalize r.kept.length = n3 at *
    generalize r.old = z1 at *
    generalize r.eden = z2 at *
    generalize r.surv = z3 at *
    generalize r.flip = z4 at *
    generalize r.hash = z5 at *
    have OKC : (#[.slice o1 n1 k1, .slice o2 n2 k2, .int .i64 z1, .int .i64 z2, .int .i64 z3, .bool z4, .int .i64 z5, .slice o3 n3 k3] : Array Value).all (·.oneCell') = true := by simp [Value.oneCell']
    go_wp2_with ((with_reducible refine store_box _ ?_ (.tmp 6) (.tmp 28) 26 ?_ 26 (w.heap.size + 1) 8 #[.slice o1 n1 k1, .slice o2 n2 k2, .int .i64 z1, .int .i64 z2, .int .i64 z3, .bool z4, .int .i64 z5, .slice o3 n3 k3] _ ?_ ?_ K ?_ ?_ OKC ?_); rfl; rfl; rfl; rfl; rfl; kernel_rfl; intro wA KA GA; have r0 : wA.cell? ⟨w.heap.size + 1, 0, none⟩ = some (.slice o1 n1 k1) := KA.cell (i := 0) (by omega); have r1 : wA.cell? ⟨w.heap.size + 1, 1, none⟩ = some (.slice o2 n2 k2) := KA.cell (i := 1) (by omega); have r2 : wA.cell? ⟨w.heap.size + 1, 2, none⟩ = some (.int .i64 z1) := KA.cell (i := 2) (by omega); have r3 : wA.cell? ⟨w.heap.size + 1, 3, none⟩ = some (.int .i64 z2) := KA.cell (i := 3) (by omega); have r4 : wA.cell? ⟨w.heap.size + 1, 4, none⟩ = some (.int .i64 z3) := KA.cell (i := 4) (by omega); have r5 : wA.cell? ⟨w.heap.size + 1, 5, none⟩ = some (.bool z4) := KA.cell (i := 5) (by omega); have r6 : wA.cell? ⟨w.heap.size + 1, 6, none⟩ = some (.int .i64 z5) := KA.cell (i := 6) (by omega); have r7 : wA.cell? ⟨w.heap.size + 1, 7, none⟩ = some (.slice o3 n3 k3) := KA.cell (i := 7) (by omega))
    have BA : Below w.heap.size w wA := Below.grown BW GA BW.size (fun q hq => by cases hq; omega)
    have HF := (HNN.out.keep (w' := wA) (fun z h1 h2 => GA.block z h2 (by intro e; cases e; omega))).low (C := w.heap.size) (by omega)
    exact bodyPost_ret (v := .tuple #[.agg #[.slice o1 n1 k1, .slice o2 n2 k2, .int .i64 z1, .int .i64 z2, .int .i64 z3, .bool z4, .int .i64 z5, .slice o3 n3 k3], .bool true]) (by simp [results, Tryz.results25, go_sem, r0, r1, r2, r3, r4, r5, r6, r7]) rfl ⟨⟨_, by rw [AB], by rw [be_yes AB, HE.out]; exact HF⟩, BA⟩
  · have D : (a == b) = false := by simp [hab]
    have CH := l11Change_c _ h a b b a _ (hv.later S3.bel) hk (by rw [exg_chg]; exact FIT)
    rw [exg_chg] at CH
    clear hab FIT
    go_wp2_with fail
    refine CH.mono ?_
    rintro e w4 ⟨⟨u, rfl, hm⟩, hb4⟩
    have S4 := S3.later hb4
    have lt3 := S3.lt
    clear CH S3 hb4 s0 s1 s2 s3 s4 s5 s6 s7 hv
    obtain ⟨B4, hB4⟩ : ∃ B4, B4 = w3.heap.size := ⟨_, rfl⟩
    rw [← hB4] at hm lt3
    clear hB4
    generalize hr : beH (exg a b) h = r at *
    have HE : Hid (beH (exg a b) h = r) := hr
    clear hr
    obtain ⟨o1, k1, o2, k2, o3, k3, rfl, -⟩ := hm.hn.out
    obtain ⟨fk, K⟩ := S4.res
    have ltW := S4.lt
    have BW := S4.bel
    have HNN : Hid (HM B4 w4 (.agg #[.slice o1 r.words.length k1, .slice o2 r.roots.length k2, .int .i64 r.old, .int .i64 r.eden, .int .i64 r.surv, .bool r.flip, .int .i64 r.hash, .slice o3 r.kept.length k3]) r) := hm
    clear hm
    generalize r.words.length = n1 at *
    generalize r.roots.length = n2 at *
    generalize r.kept.length = n3 at *
    generalize r.old = z1 at *
    generalize r.eden = z2 at *
    generalize r.surv = z3 at *
    generalize r.flip = z4 at *
    generalize r.hash = z5 at *
    have OKC : (#[.slice o1 n1 k1, .slice o2 n2 k2, .int .i64 z1, .int .i64 z2, .int .i64 z3, .bool z4, .int .i64 z5, .slice o3 n3 k3] : Array Value).all (·.oneCell') = true := by simp [Value.oneCell']
    go_wp2_with ((with_reducible refine store_box _ ?_ (.tmp 6) (.tmp 34) 26 ?_ 26 (w.heap.size + 1) 8 #[.slice o1 n1 k1, .slice o2 n2 k2, .int .i64 z1, .int .i64 z2, .int .i64 z3, .bool z4, .int .i64 z5, .slice o3 n3 k3] _ ?_ ?_ K ?_ ?_ OKC ?_); rfl; rfl; rfl; rfl; rfl; kernel_rfl; intro wA KA GA; have r0 : wA.cell? ⟨w.heap.size + 1, 0, none⟩ = some (.slice o1 n1 k1) := KA.cell (i := 0) (by omega); have r1 : wA.cell? ⟨w.heap.size + 1, 1, none⟩ = some (.slice o2 n2 k2) := KA.cell (i := 1) (by omega); have r2 : wA.cell? ⟨w.heap.size + 1, 2, none⟩ = some (.int .i64 z1) := KA.cell (i := 2) (by omega); have r3 : wA.cell? ⟨w.heap.size + 1, 3, none⟩ = some (.int .i64 z2) := KA.cell (i := 3) (by omega); have r4 : wA.cell? ⟨w.heap.size + 1, 4, none⟩ = some (.int .i64 z3) := KA.cell (i := 4) (by omega); have r5 : wA.cell? ⟨w.heap.size + 1, 5, none⟩ = some (.bool z4) := KA.cell (i := 5) (by omega); have r6 : wA.cell? ⟨w.heap.size + 1, 6, none⟩ = some (.int .i64 z5) := KA.cell (i := 6) (by omega); have r7 : wA.cell? ⟨w.heap.size + 1, 7, none⟩ = some (.slice o3 n3 k3) := KA.cell (i := 7) (by omega))
    have BA : Below w.heap.size w wA := Below.grown BW GA BW.size (fun q hq => by cases hq; omega)
    have HF := (HNN.out.keep (w' := wA) (fun z h1 h2 => GA.block z h2 (by intro e; cases e; omega))).low (C := w.heap.size) (by omega)
    exact bodyPost_ret (v := .tuple #[.agg #[.slice o1 n1 k1, .slice o2 n2 k2, .int .i64 z1, .int .i64 z2, .int .i64 z3, .bool z4, .int .i64 z5, .slice o3 n3 k3], .bool true]) (by simp [results, Tryz.results25, go_sem, r0, r1, r2, r3, r4, r5, r6, r7]) rfl ⟨⟨_, by rw [AB], by rw [be_yes AB, HE.out]; exact HF⟩, BA⟩

theorem specExchange_c (v : Value) (h : Hp) (a b : Int) (w : World) (hv : HR w v h) (hwo : h.words.length ≤ 1000000000000) (hro : h.roots.length ≤ 1000000000000) (hke : h.kept.length ≤ 1000000000000) (hxa : In64 a) (hxb : In64 b) :
    Calls Tryz.prog 25 #[v, .int .i64 a, .int .i64 b] w fun e w' => (∃ u, e = .returned (.tuple #[u, .bool (befB h a b)]) ∧ HN w.heap.size w' u (beC (exg a b) h a b)) ∧ Below w.heap.size w w' :=
  (specExchange_m v h a b w hv hwo hro hke hxa hxb).mono fun _ _ ⟨⟨u, e, k⟩, b⟩ => ⟨⟨u, e, k.hn⟩, b⟩

end Go.Proofs.YthdffigckohpoaaGreat
