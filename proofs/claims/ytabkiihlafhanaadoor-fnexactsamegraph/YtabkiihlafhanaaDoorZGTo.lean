/- szGraph and toGraph of the laws. -/
import Derived.Test.YtabkiihlafhanaaDoorZGrG
namespace Go.Proofs.YtabkiihlafhanaaDoor
open Go.RowKit

theorem own_of_row {w : World} {b e n size B : Nat} {f : Nat → Value} {xs : List Value} (h : w.rowIs b e (n * size) f) (hm : n ≤ maxLen) (hB : B ≤ b) (hl : xs.length = n * size) (hx : ∀ i, i < n * size → xs[i]? = some (f i)) : w.ownsRow B e size (.slice (some ⟨b, 0, none⟩) n n) n xs := by
  obtain ⟨c, hc, hs, hf⟩ := h
  refine ⟨hl, .inr ⟨b, n, c, rfl, hB, hc, Nat.le_refl _, hm, hs, ?_⟩⟩
  refine List.ext_getElem? fun i => ?_
  by_cases hi : i < n * size
  · rw [List.getElem?_take_of_lt hi, hx i hi]
    simpa using hf i hi
  · rw [List.getElem?_eq_none (by simp; omega), List.getElem?_eq_none (by omega)]
theorem gszInt_any (v : Value) (l : List Int) (x : Int) (w : World) (hv : IR w v l) (h1 : l.length ≤ 1000000000000000) (x0 : 0 ≤ x) (x1 : x ≤ 1048576) :
    Calls Tryd.prog 9 #[v, .int .i64 x] w fun e w' => (∃ y, e = .returned (.int .i64 y) ∧ Hid (0 ≤ y → (l.length : Int) ≤ 1048576 ∧ y ≤ 1048576)) ∧ w' = w := by
  obtain ⟨ao, cap, rfl, _, _⟩ := id hv
  clear hv
  by_cases hx : x - l.length < 0
  · go_enter Tryd.func9, Tryd.ntmps9
    go_wp2
    go_ret
    exact ⟨⟨-1, rfl, (fun h => by omega)⟩, rfl⟩
  · go_enter Tryd.func9, Tryd.ntmps9
    go_wp2
    go_ret
    exact ⟨⟨x - l.length, rfl, (fun _ => ⟨by omega, by omega⟩)⟩, rfl⟩

set_option maxHeartbeats 400000 in
theorem gtoInts_any (v : Value) (l : List Int) (w : World) (hv : IR w v l) (h1 : l.length ≤ 10000000000000) :
    Calls Tryd.prog 12 #[v] w fun e w' => (∃ v', e = .returned v' ∧ w'.ownsRow w.heap.size 2 1 v' l.length (icells l)) ∧ Below w.heap.size w w' := by
  obtain ⟨ao, cap, rfl, _, hv⟩ := hv
  have hmk := make28 l.length h1
  obtain ⟨f, hr0⟩ := made_ints w l.length
  go_enter Tryd.func12, Tryd.ntmps12
  go_wp2
  go_loopw [4] (fun i wr => ∃ (j : Nat), j ≤ l.length ∧ i = .int .i64 j ∧ Below w.heap.size w wr ∧ wr.rowIs w.heap.size 2 l.length (fun i => if i < j then icell l i else f i)) (fun i _ => l.length - (intOf i).toNat)
  case atStart => exact ⟨0, Nat.zero_le _, rfl, bel_one _ _, hr0.congr (fun i _ => by simp)⟩
  case round =>
    obtain ⟨j, hj, rfl, hb, hrow⟩ := hrel
    by_cases hlt : j < l.length
    · obtain ⟨b, o, rfl, hc⟩ := hv j hlt
      have hc1 := cell_later hb hc
      have hc2 := hrow.cell (i := j) hlt
      have hf2 := hrow.frozen j
      have R := row_copy hrow (.int .i64 (l.getD j 0)) rfl
      have G := hb.setCell (p := ⟨w.heap.size, j, none⟩) (Nat.le_refl _) (.int .i64 (l.getD j 0))
      generalize l.getD j 0 = s at *
      clear hv hc hrow hr0 hmk
      go_wp2
      go_roundw
      case rel => exact ⟨j + 1, by omega, by go_num, G, R⟩
      case measure => simp [intOf]; omega
    · obtain rfl : j = l.length := by omega
      go_wp2
      go_ret
      exact ⟨⟨_, rfl, own_of_row (by rw [Nat.mul_one]; exact hrow) (by unfold maxLen; omega) (Nat.le_refl _) (by simp [icells]) (fun i hi => by
        rw [Nat.mul_one] at hi
        rw [if_pos hi]
        simp [icells, icell, hi])⟩, hb⟩

theorem szNode_any (c z : Int) (v : Value) (fl : List Int) (x : Int) (w : World) (hv : IR w v fl) (h1 : fl.length ≤ 1000000000000000) (x0 : 0 ≤ x) (x1 : x ≤ 1048576) :
    Calls Tryd.prog 19 #[.agg #[.int .i64 c, .int .i64 z, v], .int .i64 x] w fun e w' => (∃ y, e = .returned (.int .i64 y) ∧ Hid (0 ≤ y → (fl.length : Int) ≤ 1048576 ∧ y ≤ 1048576)) ∧ Below w.heap.size w w' := by
  obtain ⟨ao, cap, rfl, _, _⟩ := id hv
  have b1 := bel_one w (.cells #[.int .i64 c, .int .i64 z, .slice ao fl.length cap] 44)
  have S := gszInt_any _ fl x _ (hv.later b1) h1 x0 x1
  go_enter Tryd.func19, Tryd.ntmps19
  go_wp2_with fail
  refine S.mono ?_
  rintro e wq ⟨⟨y, rfl, q1⟩, hq⟩
  obtain rfl := hq.symm
  by_cases hy : y < 0
  · go_wp2
    go_ret
    exact ⟨⟨-1, rfl, (fun h => by omega)⟩, b1⟩
  · go_wp2
    go_ret
    exact ⟨⟨y, rfl, q1⟩, b1⟩

set_option maxHeartbeats 1600000 in
theorem szNodeS_any (v : Value) (ns : List Nd) (x : Int) (w : World) (hv : NR w v ns) (h1 : ns.length ≤ 1000000000000000) (h2 : ∀ n, n ∈ ns → n.fl.length ≤ 1000000000000000) (x0 : 0 ≤ x) (x1 : x ≤ 1048576) :
    Calls Tryd.prog 10 #[v, .int .i64 x] w fun e w' => (∃ y, e = .returned (.int .i64 y) ∧ Hid (0 ≤ y → (ns.length ≤ 1048576 ∧ ∀ n, n ∈ ns → n.fl.length ≤ 1048576) ∧ y ≤ 1048576)) ∧ Below w.heap.size w w' := by
  obtain ⟨va, vc, rfl, _, hvc⟩ := hv
  by_cases hx : x - ns.length < 0
  · go_enter Tryd.func10, Tryd.ntmps10
    go_wp2
    go_ret
    exact ⟨⟨-1, rfl, (fun h => by omega)⟩, Below.refl _ _⟩
  · have hn : ns.length ≤ 1048576 := by omega
    go_enter Tryd.func10, Tryd.ntmps10
    go_wp2
    go_loopw [1, 5] (fun yv iv wr => ∃ (k : Nat) (y : Int), k ≤ ns.length ∧ iv = .int .i64 k ∧ yv = .int .i64 y ∧ 0 ≤ y ∧ y ≤ 1048576 ∧ Hid (∀ j, j < k → (ns.getD j nd0).fl.length ≤ 1048576) ∧ Below w.heap.size w wr) (fun _ iv _ => ns.length - (intOf iv).toNat)
    case atStart => exact ⟨0, x - ns.length, Nat.zero_le _, rfl, rfl, by omega, by omega, fun j hj => absurd hj (by omega), Below.refl _ _⟩
    case round =>
      obtain ⟨k, y, hk, rfl, rfl, y0, y1, hj, hb⟩ := hrel
      by_cases hkl : k < ns.length
      · obtain ⟨vb, vo, fa, fn, fc, rfl, c0, c1, c2, cr⟩ := hvc k hkl
        have e0 := cell_later hb c0
        have e1 := cell_later hb c1
        have e2 := cell_later hb c2
        have hki : (k : Int) < ns.length := by omega
        have S := szNode_any (ns.getD k nd0).cls (ns.getD k nd0).hash (.slice fa fn fc) (ns.getD k nd0).fl y wr (cr.later hb) (h2 _ (by simp [hkl])) y0 y1
        have UP : Hid ((ns.getD k nd0).fl.length ≤ 1048576 → ∀ j, j < k + 1 → (ns.getD j nd0).fl.length ≤ 1048576) := fun e => all_upto hj.out e
        generalize (ns.getD k nd0).cls = x2 at *
        generalize (ns.getD k nd0).hash = x3 at *
        clear c0 c1 c2 cr hvc h2 hj
        go_wp2_with fail
        refine S.mono ?_
        rintro e w2 ⟨⟨z, rfl, q1⟩, hb2⟩
        by_cases hz : z < 0
        · go_wp2
          go_ret
          exact ⟨⟨-1, rfl, (fun h => by omega)⟩, bel_after hb hb2⟩
        · obtain ⟨q2, q3⟩ := q1.out (by omega)
          have U := UP.out (by omega)
          clear UP q1
          go_wp2
          exact ⟨⟨k + 1, z, by omega, by go_num, rfl, by omega, q3, U, bel_after hb hb2⟩, by simp [intOf]; omega⟩
      · obtain rfl : k = ns.length := by omega
        have ALL : Hid (∀ n, n ∈ ns → n.fl.length ≤ 1048576) := fun n hnn => by
          obtain ⟨i, hi, rfl⟩ := List.getElem_of_mem hnn
          have := hj.out i hi
          rwa [show ns.getD i nd0 = ns[i] from by simp [List.getD_eq_getElem?_getD, hi]] at this
        clear hvc h2 hkl
        go_wp2
        go_ret
        exact ⟨⟨y, rfl, (fun _ => ⟨⟨hn, ALL.out⟩, y1⟩)⟩, hb⟩

theorem szGraph_any (v : Value) (g : Gr) (x : Int) (w : World) (hv : GR w v g) (h0 : g.roots.length ≤ 1000000000000000) (h1 : g.nodes.length ≤ 1000000000000000) (h2 : ∀ n, n ∈ g.nodes → n.fl.length ≤ 1000000000000000) (x0 : 0 ≤ x) (x1 : x ≤ 1048576) :
    Calls Tryd.prog 4 #[v, .int .i64 x] w fun e w' => (∃ y, e = .returned (.int .i64 y) ∧ Hid (0 ≤ y → (g.roots.length ≤ 1048576 ∧ g.nodes.length ≤ 1048576 ∧ ∀ n, n ∈ g.nodes → n.fl.length ≤ 1048576) ∧ y ≤ 1048576)) ∧ Below w.heap.size w w' := by
  obtain ⟨ra, rc, na, nc, rfl, hr, hn⟩ := hv.out
  have b1 := bel_one w (.cells #[.slice ra g.roots.length rc, .slice na g.nodes.length nc, .int .i64 g.hash] 25)
  have R := graphC w (.slice ra g.roots.length rc) (.slice na g.nodes.length nc) g.hash 25
  have S1 := gszInt_any _ g.roots x _ (hr.later b1) h0 x0 x1
  have S2 := fun y => szNodeS_any _ g.nodes y _ (hn.later b1) h1 h2
  clear hr hn h0 h1 h2
  go_enter Tryd.func4, Tryd.ntmps4
  go_wp2_with fail
  refine S1.mono ?_
  rintro e wq ⟨⟨y, rfl, q1⟩, hq⟩
  obtain rfl := hq.symm
  by_cases hy : y < 0
  · go_wp2
    go_ret
    exact ⟨⟨-1, rfl, (fun h => by omega)⟩, b1⟩
  obtain ⟨q2, q3⟩ := q1.out (by omega)
  go_wp2_with fail
  refine (S2 y (by omega) q3).mono ?_
  rintro e w2 ⟨⟨z, rfl, q4⟩, hb2⟩
  by_cases hz : z < 0
  · go_wp2
    go_ret
    exact ⟨⟨-1, rfl, (fun h => by omega)⟩, bel_after b1 hb2⟩
  · go_wp2
    go_ret
    exact ⟨⟨z, rfl, (fun h => ⟨⟨by omega, (q4.out h).1.1, (q4.out h).1.2⟩, (q4.out h).2⟩)⟩, bel_after b1 hb2⟩

end Go.Proofs.YtabkiihlafhanaaDoor
