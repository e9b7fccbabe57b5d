/- Shape and Reached of the model. -/
import Derived.Test.YtabkiihlafhanaaZGReach
namespace Go.Proofs.Ytabkiihlafhanaa
open Go.RowKit

theorem GR.out {w : World} {v : Value} {g : Gr} (h : GR w v g) : ∃ ra rc na nc, v = .agg #[.slice ra g.roots.length rc, .slice na g.nodes.length nc, .int .i64 g.hash] ∧ IR w (.slice ra g.roots.length rc) g.roots ∧ NR w (.slice na g.nodes.length nc) g.nodes := by
  obtain ⟨vr, vn, rfl, hr, hn⟩ := h
  obtain ⟨ra, rc, rfl⟩ := IR.shape hr
  obtain ⟨na, nc, rfl⟩ := NR.shape hn
  exact ⟨ra, rc, na, nc, rfl, hr, hn⟩
theorem shape_c (h : Hp) : shC h = if okC h = true then shP h else gr0 := rfl
theorem gr_zero (w : World) : GR w (.agg #[.slice none 0 0, .slice none 0 0, .int .i64 0]) gr0 :=
  ⟨_, _, rfl, ⟨none, 0, rfl, Nat.le_refl _, fun i hi => absurd hi (Nat.not_lt_zero i)⟩, ⟨none, 0, rfl, Nat.le_refl _, fun i hi => absurd hi (Nat.not_lt_zero i)⟩⟩
/-- A result cell of a graph, two blocks above. -/
theorem gres (w : World) (C : Array Value) (t : TypeId) : ((w.alloc (.cells C t)).alloc (.cells #[.slice none 0 0, .slice none 0 0, .int .i64 0] 28)).rowIs (w.heap.size + 1) 28 3 (grF (.slice none 0 0) (.slice none 0 0) 0) := by
  have q := graphC (w.alloc (.cells C t)) (.slice none 0 0) (.slice none 0 0) 0 28
  rwa [World.size_alloc] at q
theorem node_need {h : Hp} {l : List Nat} (r : RightAt h l) : (shP h).nodes.length = (ordF h.words h.roots).length ∧ ∀ k, k < (shP h).nodes.length → ∃ m : Nat, m ≤ 60 ∧ ((shP h).nodes.getD k nd0).fl.length = m ∧ rsum h.words ((ordF h.words h.roots).take (k + 1)) = rsum h.words ((ordF h.words h.roots).take k) + (4 + m) := by
  have e : (shP h).nodes = (ordF h.words h.roots).map (ndOf h.words (ordF h.words h.roots)) := rfl
  have e1 : (shP h).nodes.length = (ordF h.words h.roots).length := by rw [e, List.length_map]
  refine ⟨e1, fun k hk => ?_⟩
  rw [e1] at hk
  obtain ⟨m, m60, hm, _, _, hs⟩ := reach_need r hk
  refine ⟨m, m60, ?_, hs⟩
  have e2 : (shP h).nodes.getD k nd0 = ndOf h.words (ordF h.words h.roots) ((ordF h.words h.roots).getD k 0) := by rw [e]; simp [hk]
  rw [e2]
  show ((flds h.words ((ordF h.words h.roots).getD k 0)).map (ren (ordF h.words h.roots))).length = m
  rw [List.length_map, flds_length, hm]
  rfl

set_option maxRecDepth 100000 in
set_option maxHeartbeats 1600000 in
theorem specReached_c (v : Value) (h : Hp) (w : World) (hv : HR w v h) (hro : h.roots.length ≤ 1000000000000) (hke : h.kept.length ≤ 1000000000000) :
    Calls Try.prog 14 #[v] w fun x w' => x = .returned (.int .i64 (reC h)) ∧ Below w.heap.size w w' := by
  obtain ⟨v1, v2, v3, rfl, i1, i2, i3⟩ := id hv
  have hb0 := bel_one w (.cells #[v1, v2, .int .i64 h.old, .int .i64 h.eden, .int .i64 h.surv, .bool h.flip, .int .i64 h.hash, v3] 30)
  have X0 := Bx.new w v1 v2 v3 h 30
  have C := specHeapOk_c _ h _ (hv.later hb0) hro hke
  have E := reach_c h
  obtain ⟨c0, c1, c2, c3, c4, c5, c6, c7⟩ := id X0
  cases hk : okC h
  · rw [hk] at C E
    have E' : Hid (reC h = -1) := E
    clear E i1 i2 i3
    go_enter Try.func14, Try.ntmps14
    go_wp2_with fail
    refine C.mono ?_
    rintro x w1 ⟨rfl, hb1⟩
    go_wp2
    go_ret
    exact ⟨wret_int E'.out.symm, bel_after hb0 hb1⟩
  · rw [hk] at C E
    have E' : Hid (reC h = rsum h.words (ordF h.words h.roots)) := E
    have r := c_right hk
    have SF := fun W (hb : Below w.heap.size w W) => l6Shape_any _ h (obC h) W (hv.later hb) r
    clear E hk i1 i2 i3 hv
    go_enter Try.func14, Try.ntmps14
    go_wp2_with fail
    refine C.mono ?_
    rintro x w1 ⟨rfl, hb1⟩
    have X1 := X0.later hb1
    have hbw1 := bel_after hb0 hb1
    clear c0 c1 c2 c3 c4 c5 c6 c7
    obtain ⟨c0, c1, c2, c3, c4, c5, c6, c7⟩ := id X1
    go_wp2_with fail
    refine (SF w1 hbw1).mono ?_
    rintro x w2 ⟨⟨gv, rfl, hg⟩, hb2⟩
    have hbw2 := bel_after hbw1 hb2
    obtain ⟨ra, rc, na, nc, hgv, hgr, hgn⟩ := hg.gr.out
    subst hgv
    obtain ⟨LN', ND'⟩ := node_need r
    have LN : Hid ((shP h).nodes.length = (ordF h.words h.roots).length) := LN'
    have ND : Hid (∀ k, k < (shP h).nodes.length → ∃ m : Nat, m ≤ 60 ∧ ((shP h).nodes.getD k nd0).fl.length = m ∧ rsum h.words ((ordF h.words h.roots).take (k + 1)) = rsum h.words ((ordF h.words h.roots).take k) + (4 + m)) := ND'
    have h3 := ord_len r
    rw [← LN'] at h3
    clear LN' ND' hg hgr SF
    generalize shP h = g at *
    have al := bel_one w2 (.cells #[.slice ra g.roots.length rc, .slice na g.nodes.length nc, .int .i64 g.hash] 28)
    have hn3 := hgn.later al
    have hbw3 := bel_after hbw2 al
    have G := graphC w2 (.slice ra g.roots.length rc) (.slice na g.nodes.length nc) g.hash 28
    have g1 : (w2.alloc (.cells #[.slice ra g.roots.length rc, .slice na g.nodes.length nc, .int .i64 g.hash] 28)).cell? ⟨w2.heap.size, 1, none⟩ = some (.slice na g.nodes.length nc) := G.cell (i := 1) (by omega)
    obtain ⟨na', nc', e', _, hnc⟩ := hn3
    simp only [Value.slice.injEq] at e'
    obtain ⟨rfl, _, rfl⟩ := e'
    clear c0 c1 c2 c3 c4 c5 c6 c7 hgn G
    go_wp2
    generalize w2.alloc (.cells #[.slice ra g.roots.length rc, .slice na g.nodes.length nc, .int .i64 g.hash] 28) = w3 at *
    go_loopw [4, 5] (fun yv kv wr => ∃ k : Nat, k ≤ g.nodes.length ∧ kv = .int .i64 k ∧ yv = .int .i64 (rsum h.words ((ordF h.words h.roots).take k)) ∧ wr = w3) (fun _ kv _ => g.nodes.length - (intOf kv).toNat)
    case atStart => exact ⟨0, Nat.zero_le _, rfl, rfl, rfl⟩
    case round =>
      obtain ⟨k, hk, rfl, rfl, hwr⟩ := hrel
      obtain rfl := hwr.symm
      clear hwr
      by_cases hkl : k < g.nodes.length
      · obtain ⟨nb, no, fa, fn, fc, rfl, k0, k1, k2, kr⟩ := hnc k hkl
        obtain ⟨m, m60, hm, hs⟩ := ND.out k hkl
        obtain ⟨r1, r2⟩ := reach_small r k
        obtain ⟨_, _, ef, _⟩ := kr
        simp only [Value.slice.injEq] at ef
        obtain ⟨_, ef2, _⟩ := ef
        rw [ef2, hm] at k2
        have HS : Hid (rsum h.words ((ordF h.words h.roots).take (k + 1)) = rsum h.words ((ordF h.words h.roots).take k) + (4 + m)) := hs
        clear hm hs hnc ef2 k0 k1
        generalize rsum h.words ((ordF h.words h.roots).take k) = s at *
        have hki : (k : Int) < g.nodes.length := by omega
        go_wp2
        exact ⟨⟨k + 1, by omega, by go_num, by rw [HS.out]; congr 1; omega, trivial⟩, by simp [intOf]; omega⟩
      · obtain rfl : k = g.nodes.length := by omega
        have TA : Hid ((ordF h.words h.roots).take g.nodes.length = ordF h.words h.roots) := List.take_of_length_le (by rw [LN.out]; exact Nat.le_refl _)
        go_wp2
        go_ret
        exact ⟨wret_int (by rw [TA.out]; exact E'.out.symm), hbw3⟩

set_option maxRecDepth 100000 in
set_option maxHeartbeats 1600000 in
theorem specShape_c (v : Value) (h : Hp) (w : World) (hv : HR w v h) (hro : h.roots.length ≤ 1000000000000) (hke : h.kept.length ≤ 1000000000000) :
    Calls Try.prog 6 #[v] w fun x w' => (∃ v', x = .returned v' ∧ GR w' v' (shC h)) ∧ Below w.heap.size w w' := by
  obtain ⟨v1, v2, v3, rfl, i1, i2, i3⟩ := id hv
  have X0 := (Bx.new w v1 v2 v3 h 30).later (bel_one _ (.cells #[.slice none 0 0, .slice none 0 0, .int .i64 0] 28))
  have RS0 := gres w #[v1, v2, .int .i64 h.old, .int .i64 h.eden, .int .i64 h.surv, .bool h.flip, .int .i64 h.hash, v3] 30
  generalize hW0 : (w.alloc (.cells #[v1, v2, .int .i64 h.old, .int .i64 h.eden, .int .i64 h.surv, .bool h.flip, .int .i64 h.hash, v3] 30)).alloc (.cells #[.slice none 0 0, .slice none 0 0, .int .i64 0] 28) = W0 at X0 RS0
  have Z0 : W0.heap.size = w.heap.size + 2 := by rw [← hW0]; simp
  have B0 : Below w.heap.size w W0 := by rw [← hW0]; exact bel_after (bel_one _ _) (bel_one _ _)
  have C := specHeapOk_c _ h _ (hv.later B0) hro hke
  have E := shape_c h
  obtain ⟨c0, c1, c2, c3, c4, c5, c6, c7⟩ := id X0
  cases hk : okC h
  · rw [hk] at C E
    have E' : Hid (shC h = gr0) := E
    clear E i1 i2 i3
    go_enter Try.func6, Try.ntmps6
    go_wp2_with fail
    refine C.mono ?_
    rintro x w1 ⟨rfl, hb1⟩
    have RR := RS0.of_block (hb1.block _ RS0.lt)
    have r0 : w1.cell? ⟨w.heap.size + 1, 0, none⟩ = some (.slice none 0 0) := RR.cell (i := 0) (by omega)
    have r1 : w1.cell? ⟨w.heap.size + 1, 1, none⟩ = some (.slice none 0 0) := RR.cell (i := 1) (by omega)
    have r2 : w1.cell? ⟨w.heap.size + 1, 2, none⟩ = some (.int .i64 0) := RR.cell (i := 2) (by omega)
    have f0 := RR.frozen 0
    have f1 := RR.frozen 1
    have f2 := RR.frozen 2
    have hbw1 := bel_after B0 hb1
    have G := (gr_store (u0 := .slice none 0 0) (u1 := .slice none 0 0) (h2 := 0) RR).2
    have bz := hbw1.trans (G.below hbw1.size fun b _ e => by omega)
    have FIN : Hid ((∃ v', Ending.returned (.agg #[.slice none 0 0, .slice none 0 0, .int .i64 0]) = .returned v' ∧ GR (((w1.setCell ⟨w.heap.size + 1, 0, none⟩ (.slice none 0 0)).setCell ⟨w.heap.size + 1, 1, none⟩ (.slice none 0 0)).setCell ⟨w.heap.size + 1, 2, none⟩ (.int .i64 0)) v' (shC h)) ∧ Below w.heap.size w (((w1.setCell ⟨w.heap.size + 1, 0, none⟩ (.slice none 0 0)).setCell ⟨w.heap.size + 1, 1, none⟩ (.slice none 0 0)).setCell ⟨w.heap.size + 1, 2, none⟩ (.int .i64 0))) := ⟨⟨_, rfl, by rw [E'.out]; exact gr_zero _⟩, bz⟩
    clear c0 c1 c2 c3 c4 c5 c6 c7 G bz
    go_wp2
    exact bodyPost_ret (v := .agg #[.slice none 0 0, .slice none 0 0, .int .i64 0]) (by simp [results, Try.results6, go_sem, r0, r1, r2]) rfl FIN.out
  · rw [hk] at C E
    have E' : Hid (shC h = shP h) := E
    have r := c_right hk
    have SF := fun W (hb : Below w.heap.size w W) => l6Shape_any _ h (obC h) W (hv.later hb) r
    clear E hk i1 i2 i3 hv
    go_enter Try.func6, Try.ntmps6
    go_wp2_with fail
    refine C.mono ?_
    rintro x w1 ⟨rfl, hb1⟩
    have X1 := X0.later hb1
    have hbw1 := bel_after B0 hb1
    clear c0 c1 c2 c3 c4 c5 c6 c7
    obtain ⟨c0, c1, c2, c3, c4, c5, c6, c7⟩ := id X1
    go_wp2_with fail
    refine (SF w1 hbw1).mono ?_
    rintro x w2 ⟨⟨gv, rfl, hg⟩, hb2⟩
    have hbw2 := bel_after hbw1 hb2
    have s1 := hb1.size
    have RR := (RS0.of_block (hb1.block _ RS0.lt)).of_block (hb2.block _ (by have := RS0.lt; omega))
    obtain ⟨ra, rc, na, nc, hgv, hgr, hgn⟩ := hg.gr.out
    subst hgv
    have G := (gr_store (u0 := .slice ra (shP h).roots.length rc) (u1 := .slice na (shP h).nodes.length nc) (h2 := (shP h).hash) RR)
    have fin := G.2.grn hg (fun b e => by omega)
    have bz := hbw2.trans (G.2.below hbw2.size fun b _ e => by omega)
    have FIN : Hid ((∃ v', Ending.returned (.agg #[.slice ra (shP h).roots.length rc, .slice na (shP h).nodes.length nc, .int .i64 (shP h).hash]) = .returned v' ∧ GR (((w2.setCell ⟨w.heap.size + 1, 0, none⟩ (.slice ra (shP h).roots.length rc)).setCell ⟨w.heap.size + 1, 1, none⟩ (.slice na (shP h).nodes.length nc)).setCell ⟨w.heap.size + 1, 2, none⟩ (.int .i64 (shP h).hash)) v' (shC h)) ∧ Below w.heap.size w (((w2.setCell ⟨w.heap.size + 1, 0, none⟩ (.slice ra (shP h).roots.length rc)).setCell ⟨w.heap.size + 1, 1, none⟩ (.slice na (shP h).nodes.length nc)).setCell ⟨w.heap.size + 1, 2, none⟩ (.int .i64 (shP h).hash))) := ⟨⟨_, rfl, by rw [E'.out]; exact fin.gr⟩, bz⟩
    have r0 : w2.cell? ⟨w.heap.size + 1, 0, none⟩ = some (.slice none 0 0) := RR.cell (i := 0) (by omega)
    have r1 : w2.cell? ⟨w.heap.size + 1, 1, none⟩ = some (.slice none 0 0) := RR.cell (i := 1) (by omega)
    have r2 : w2.cell? ⟨w.heap.size + 1, 2, none⟩ = some (.int .i64 0) := RR.cell (i := 2) (by omega)
    have f0 := RR.frozen 0
    have f1 := RR.frozen 1
    have f2 := RR.frozen 2
    clear c0 c1 c2 c3 c4 c5 c6 c7 G bz fin hg hgr hgn E' SF
    generalize (shP h).roots.length = n1 at *
    generalize (shP h).nodes.length = n2 at *
    generalize (shP h).hash = hh at *
    go_wp2
    exact bodyPost_ret (v := .agg #[.slice ra n1 rc, .slice na n2 nc, .int .i64 hh]) (by simp [results, Try.results6, go_sem, r0, r1, r2]) rfl FIN.out

end Go.Proofs.Ytabkiihlafhanaa
