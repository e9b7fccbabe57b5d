/- Shape and Reached of the model. -/
import Derived.Test.YtfbnjdlnmnhjoaaZGReach
namespace Go.Proofs.Ytfbnjdlnmnhjoaa
open Go.RowKit

theorem shape_c (h : Hp) : shC h = if okC h = true then shP h else gr0 := rfl
theorem gr_zero (w : World) : GR w (.agg #[.slice none 0 0, .slice none 0 0, .int .i64 0]) gr0 :=
  ⟨_, _, rfl, ⟨none, 0, rfl, Nat.le_refl _, fun i hi => absurd hi (Nat.not_lt_zero i)⟩, ⟨none, 0, rfl, Nat.le_refl _, fun i hi => absurd hi (Nat.not_lt_zero i)⟩⟩
/-- A result cell of a graph, two blocks above. -/
theorem gres (w : World) (C : Array Value) (t : TypeId) : ((w.alloc (.cells C t)).alloc (.cells #[.slice none 0 0, .slice none 0 0, .int .i64 0] 43)).rowIs (w.heap.size + 1) 43 3 (grF (.slice none 0 0) (.slice none 0 0) 0) := by
  have q := graphC (w.alloc (.cells C t)) (.slice none 0 0) (.slice none 0 0) 0 43
  rwa [World.size_alloc] at q
theorem node_need {h : Hp} {l : List Nat} (r : RightAt h l) : (shP h).nodes.length = (ordF h.words h.roots).length ∧ ∀ k, k < (shP h).nodes.length → ∃ m : Nat, m ≤ 60 ∧ ((shP h).nodes.getD k nd0).fl.length = m ∧ rsum h.words ((ordF h.words h.roots).take (k + 1)) = rsum h.words ((ordF h.words h.roots).take k) + (4 + m) := by
  have e : (shP h).nodes = (ordF h.words h.roots).map (ndOf h.words (ordF h.words h.roots)) := rfl
  have e1 : (shP h).nodes.length = (ordF h.words h.roots).length := by rw [e, List.length_map]
  refine ⟨e1, fun k hk => ?_⟩
  rw [e1] at hk
  obtain ⟨m, m60, hm, _, _, hs⟩ := reach_need r hk
  refine ⟨m, m60, ?_, hs⟩
  have e2 : (shP h).nodes.getD k nd0 = ndOf h.words (ordF h.words h.roots) ((ordF h.words h.roots).getD k 0) := by rw [e]; simp [hk]
  rw [e2]
  show ((flds h.words ((ordF h.words h.roots).getD k 0)).map (ren (ordF h.words h.roots))).length = m
  rw [List.length_map, flds_length, hm]
  rfl

set_option maxRecDepth 100000 in
set_option maxHeartbeats 1600000 in
theorem specReached_c (v : Value) (h : Hp) (w : World) (hv : HR w v h) (hro : h.roots.length ≤ 1000000000000) (hke : h.kept.length ≤ 1000000000000) :
    Calls Try.prog 8 #[v] w fun x w' => x = .returned (.int .i64 (reC h)) ∧ Below w.heap.size w w' := by
  obtain ⟨v1, v2, v3, rfl, i1, i2, i3⟩ := id hv
  have hb0 := bel_one w (.cells #[v1, v2, .int .i64 h.old, .int .i64 h.eden, .int .i64 h.surv, .bool h.flip, .int .i64 h.hash, v3] 27)
  have X0 := Bx.new w v1 v2 v3 h 27
  have C := specHeapOk_c _ h _ (hv.later hb0) hro hke
  have E := reach_c h
  obtain ⟨c0, c1, c2, c3, c4, c5, c6, c7⟩ := id X0
  cases hk : okC h
  · rw [hk] at C E
    have E' : Hid (reC h = -1) := E
    clear E i1 i2 i3
    go_enter Try.func8, Try.ntmps8
    go_wp2_with fail
    refine C.mono ?_
    rintro x w1 ⟨rfl, hb1⟩
    go_wp2
    go_ret
    exact ⟨wret_int E'.out.symm, bel_after hb0 hb1⟩
  · rw [hk] at C E
    have E' : Hid (reC h = rsum h.words (ordF h.words h.roots)) := E
    have r := c_right hk
    have SF := fun W (hb : Below w.heap.size w W) => l6Shape_any _ h (obC h) W (hv.later hb) r
    clear E hk i1 i2 i3 hv
    go_enter Try.func8, Try.ntmps8
    go_wp2_with fail
    refine C.mono ?_
    rintro x w1 ⟨rfl, hb1⟩
    have X1 := X0.later hb1
    have hbw1 := bel_after hb0 hb1
    clear c0 c1 c2 c3 c4 c5 c6 c7
    obtain ⟨c0, c1, c2, c3, c4, c5, c6, c7⟩ := id X1
    go_wp2_with fail
    refine (SF w1 hbw1).mono ?_
    rintro x w2 ⟨⟨gv, rfl, hg⟩, hb2⟩
    have hbw2 := bel_after hbw1 hb2
    obtain ⟨ra, rc, na, nc, hgv, hgr, hgn⟩ := hg.gr.out
    subst hgv
    obtain ⟨LN', ND'⟩ := node_need r
    have LN : Hid ((shP h).nodes.length = (ordF h.words h.roots).length) := LN'
    have ND : Hid (∀ k, k < (shP h).nodes.length → ∃ m : Nat, m ≤ 60 ∧ ((shP h).nodes.getD k nd0).fl.length = m ∧ rsum h.words ((ordF h.words h.roots).take (k + 1)) = rsum h.words ((ordF h.words h.roots).take k) + (4 + m)) := ND'
    have h3 := ord_len r
    rw [← LN'] at h3
    clear LN' ND' hg hgr SF
    generalize shP h = g at *
    have al := bel_one w2 (.cells #[.slice ra g.roots.length rc, .slice na g.nodes.length nc, .int .i64 g.hash] 43)
    have hn3 := hgn.later al
    have hbw3 := bel_after hbw2 al
    have G := graphC w2 (.slice ra g.roots.length rc) (.slice na g.nodes.length nc) g.hash 43
    have g1 : (w2.alloc (.cells #[.slice ra g.roots.length rc, .slice na g.nodes.length nc, .int .i64 g.hash] 43)).cell? ⟨w2.heap.size, 1, none⟩ = some (.slice na g.nodes.length nc) := G.cell (i := 1) (by omega)
    obtain ⟨na', nc', e', _, hnc⟩ := hn3
    simp only [Value.slice.injEq] at e'
    obtain ⟨rfl, _, rfl⟩ := e'
    clear c0 c1 c2 c3 c4 c5 c6 c7 hgn G
    go_wp2
    generalize w2.alloc (.cells #[.slice ra g.roots.length rc, .slice na g.nodes.length nc, .int .i64 g.hash] 43) = w3 at *
    go_loopw [4, 5] (fun yv kv wr => ∃ k : Nat, k ≤ g.nodes.length ∧ kv = .int .i64 k ∧ yv = .int .i64 (rsum h.words ((ordF h.words h.roots).take k)) ∧ wr = w3) (fun _ kv _ => g.nodes.length - (intOf kv).toNat)
    case atStart => exact ⟨0, Nat.zero_le _, rfl, rfl, rfl⟩
    case round =>
      obtain ⟨k, hk, rfl, rfl, hwr⟩ := hrel
      obtain rfl := hwr.symm
      clear hwr
      by_cases hkl : k < g.nodes.length
      · obtain ⟨nb, no, fa, fn, fc, rfl, k0, k1, k2, kr⟩ := hnc k hkl
        obtain ⟨m, m60, hm, hs⟩ := ND.out k hkl
        obtain ⟨r1, r2⟩ := reach_small r k
        obtain ⟨_, _, ef, _⟩ := kr
        simp only [Value.slice.injEq] at ef
        obtain ⟨_, ef2, _⟩ := ef
        rw [ef2, hm] at k2
        have HS : Hid (rsum h.words ((ordF h.words h.roots).take (k + 1)) = rsum h.words ((ordF h.words h.roots).take k) + (4 + m)) := hs
        clear hm hs hnc ef2 k0 k1
        generalize rsum h.words ((ordF h.words h.roots).take k) = s at *
        have hki : (k : Int) < g.nodes.length := by omega
        go_wp2
        exact ⟨⟨k + 1, by omega, by go_num, by rw [HS.out]; congr 1; omega, trivial⟩, by simp [intOf]; omega⟩
      · obtain rfl : k = g.nodes.length := by omega
        have TA : Hid ((ordF h.words h.roots).take g.nodes.length = ordF h.words h.roots) := List.take_of_length_le (by rw [LN.out]; exact Nat.le_refl _)
        go_wp2
        go_ret
        exact ⟨wret_int (by rw [TA.out]; exact E'.out.symm), hbw3⟩


end Go.Proofs.Ytfbnjdlnmnhjoaa
