import Derived.Test.YtnppoeifhmkphaaGreatDoorZGrG
import Derived.Laws.MakeOwn
/- szGraph and toGraph of the laws. -/
namespace Go.Proofs.YtnppoeifhmkphaaGreatDoor
open Go.RowKit

theorem own_of_row {w : World} {b e n size B : Nat} {f : Nat → Value} {xs : List Value} (h : w.rowIs b e (n * size) f) (hm : n ≤ maxLen) (hB : B ≤ b) (hl : xs.length = n * size) (hx : ∀ i, i < n * size → xs[i]? = some (f i)) : w.ownsRow B e size (.slice (some ⟨b, 0, none⟩) n n) n xs := by
  obtain ⟨c, hc, hs, hf⟩ := h
  refine ⟨hl, .inr ⟨b, n, c, rfl, hB, hc, Nat.le_refl _, hm, hs, ?_⟩⟩
  refine List.ext_getElem? fun i => ?_
  by_cases hi : i < n * size
  · rw [List.getElem?_take_of_lt hi, hx i hi]
    simpa using hf i hi
  · rw [List.getElem?_eq_none (by simp; omega), List.getElem?_eq_none (by omega)]
theorem gszInt_any (v : Value) (l : List Int) (x : Int) (w : World) (hv : IR w v l) (h1 : l.length ≤ 1000000000000000) (x0 : 0 ≤ x) (x1 : x ≤ 1048576) :
    Calls Tryz.prog 16 #[v, .int .i64 x] w fun e w' => (∃ y, e = .returned (.int .i64 y) ∧ Hid (0 ≤ y → (l.length : Int) ≤ 1048576 ∧ y ≤ 1048576)) ∧ w' = w := by
  obtain ⟨ao, cap, rfl, _, _⟩ := id hv
  clear hv
  by_cases hx : x - l.length < 0
  · go_enter Tryz.func16, Tryz.ntmps16
    go_wp2
    go_ret
    exact ⟨⟨-1, rfl, (fun h => by omega)⟩, rfl⟩
  · go_enter Tryz.func16, Tryz.ntmps16
    go_wp2
    go_ret
    exact ⟨⟨x - l.length, rfl, (fun _ => ⟨by omega, by omega⟩)⟩, rfl⟩

set_option maxHeartbeats 400000 in
theorem gtoInts_any (v : Value) (l : List Int) (w : World) (hv : IR w v l) (h1 : l.length ≤ 10000000000000) :
    Calls Tryz.prog 23 #[v] w fun e w' => (∃ v', e = .returned v' ∧ w'.ownsRow w.heap.size 2 1 v' l.length (icells l)) ∧ Below w.heap.size w w' := by
  obtain ⟨ao, cap, rfl, _, hv⟩ := hv
  have hmk := make28 l.length h1
  obtain ⟨f, hr0⟩ := made_ints w l.length
  go_enter Tryz.func23, Tryz.ntmps23
  go_wp2
  go_loopw [4] (fun i wr => ∃ (j : Nat), j ≤ l.length ∧ i = .int .i64 j ∧ Below w.heap.size w wr ∧ wr.rowIs w.heap.size 2 l.length (fun i => if i < j then icell l i else f i)) (fun i _ => l.length - (intOf i).toNat)
  case atStart => exact ⟨0, Nat.zero_le _, rfl, bel_one _ _, hr0.congr (fun i _ => by simp)⟩
  case round =>
    obtain ⟨j, hj, rfl, hb, hrow⟩ := hrel
    by_cases hlt : j < l.length
    · obtain ⟨b, o, rfl, hc⟩ := hv j hlt
      have hc1 := cell_later hb hc
      have hc2 := hrow.cell (i := j) hlt
      have hf2 := hrow.frozen j
      have R := row_copy hrow (.int .i64 (l.getD j 0)) rfl
      have G := hb.setCell (p := ⟨w.heap.size, j, none⟩) (Nat.le_refl _) (.int .i64 (l.getD j 0))
      generalize l.getD j 0 = s at *
      clear hv hc hrow hr0 hmk
      go_wp2
      go_roundw
      case rel => exact ⟨j + 1, by omega, by go_num, G, R⟩
      case measure => simp [intOf]; omega
    · obtain rfl : j = l.length := by omega
      go_wp2
      go_ret
      exact ⟨⟨_, rfl, own_of_row (by rw [Nat.mul_one]; exact hrow) (by unfold maxLen; omega) (Nat.le_refl _) (by simp [icells]) (fun i hi => by
        rw [Nat.mul_one] at hi
        rw [if_pos hi]
        simp [icells, icell, hi])⟩, hb⟩

theorem szNode_any (c z : Int) (v : Value) (fl : List Int) (x : Int) (w : World) (hv : IR w v fl) (h1 : fl.length ≤ 1000000000000000) (x0 : 0 ≤ x) (x1 : x ≤ 1048576) :
    Calls Tryz.prog 34 #[.agg #[.int .i64 c, .int .i64 z, v], .int .i64 x] w fun e w' => (∃ y, e = .returned (.int .i64 y) ∧ Hid (0 ≤ y → (fl.length : Int) ≤ 1048576 ∧ y ≤ 1048576)) ∧ Below w.heap.size w w' := by
  obtain ⟨ao, cap, rfl, _, _⟩ := id hv
  have b1 := bel_one w (.cells #[.int .i64 c, .int .i64 z, .slice ao fl.length cap] 56)
  have S := gszInt_any _ fl x _ (hv.later b1) h1 x0 x1
  go_enter Tryz.func34, Tryz.ntmps34
  go_wp2_with fail
  refine S.mono ?_
  rintro e wq ⟨⟨y, rfl, q1⟩, hq⟩
  obtain rfl := hq.symm
  by_cases hy : y < 0
  · go_wp2
    go_ret
    exact ⟨⟨-1, rfl, (fun h => by omega)⟩, b1⟩
  · go_wp2
    go_ret
    exact ⟨⟨y, rfl, q1⟩, b1⟩

set_option maxHeartbeats 1600000 in
theorem szNodeS_any (v : Value) (ns : List Nd) (x : Int) (w : World) (hv : NR w v ns) (h1 : ns.length ≤ 1000000000000000) (h2 : ∀ n, n ∈ ns → n.fl.length ≤ 1000000000000000) (x0 : 0 ≤ x) (x1 : x ≤ 1048576) :
    Calls Tryz.prog 17 #[v, .int .i64 x] w fun e w' => (∃ y, e = .returned (.int .i64 y) ∧ Hid (0 ≤ y → (ns.length ≤ 1048576 ∧ ∀ n, n ∈ ns → n.fl.length ≤ 1048576) ∧ y ≤ 1048576)) ∧ Below w.heap.size w w' := by
  obtain ⟨va, vc, rfl, _, hvc⟩ := hv
  by_cases hx : x - ns.length < 0
  · go_enter Tryz.func17, Tryz.ntmps17
    go_wp2
    go_ret
    exact ⟨⟨-1, rfl, (fun h => by omega)⟩, Below.refl _ _⟩
  · have hn : ns.length ≤ 1048576 := by omega
    go_enter Tryz.func17, Tryz.ntmps17
    go_wp2
    go_loopw [1, 5] (fun yv iv wr => ∃ (k : Nat) (y : Int), k ≤ ns.length ∧ iv = .int .i64 k ∧ yv = .int .i64 y ∧ 0 ≤ y ∧ y ≤ 1048576 ∧ Hid (∀ j, j < k → (ns.getD j nd0).fl.length ≤ 1048576) ∧ Below w.heap.size w wr) (fun _ iv _ => ns.length - (intOf iv).toNat)
    case atStart => exact ⟨0, x - ns.length, Nat.zero_le _, rfl, rfl, by omega, by omega, fun j hj => absurd hj (by omega), Below.refl _ _⟩
    case round =>
      obtain ⟨k, y, hk, rfl, rfl, y0, y1, hj, hb⟩ := hrel
      by_cases hkl : k < ns.length
      · obtain ⟨vb, vo, fa, fn, fc, rfl, c0, c1, c2, cr⟩ := hvc k hkl
        have e0 := cell_later hb c0
        have e1 := cell_later hb c1
        have e2 := cell_later hb c2
        have hki : (k : Int) < ns.length := by omega
        have S := szNode_any (ns.getD k nd0).cls (ns.getD k nd0).hash (.slice fa fn fc) (ns.getD k nd0).fl y wr (cr.later hb) (h2 _ (by simp [hkl])) y0 y1
        have UP : Hid ((ns.getD k nd0).fl.length ≤ 1048576 → ∀ j, j < k + 1 → (ns.getD j nd0).fl.length ≤ 1048576) := fun e => all_upto hj.out e
        generalize (ns.getD k nd0).cls = x2 at *
        generalize (ns.getD k nd0).hash = x3 at *
        clear c0 c1 c2 cr hvc h2 hj
        go_wp2_with fail
        refine S.mono ?_
        rintro e w2 ⟨⟨z, rfl, q1⟩, hb2⟩
        by_cases hz : z < 0
        · go_wp2
          go_ret
          exact ⟨⟨-1, rfl, (fun h => by omega)⟩, bel_after hb hb2⟩
        · obtain ⟨q2, q3⟩ := q1.out (by omega)
          have U := UP.out (by omega)
          clear UP q1
          go_wp2
          exact ⟨⟨k + 1, z, by omega, by go_num, rfl, by omega, q3, U, bel_after hb hb2⟩, by simp [intOf]; omega⟩
      · obtain rfl : k = ns.length := by omega
        have ALL : Hid (∀ n, n ∈ ns → n.fl.length ≤ 1048576) := fun n hnn => by
          obtain ⟨i, hi, rfl⟩ := List.getElem_of_mem hnn
          have := hj.out i hi
          rwa [show ns.getD i nd0 = ns[i] from by simp [List.getD_eq_getElem?_getD, hi]] at this
        clear hvc h2 hkl
        go_wp2
        go_ret
        exact ⟨⟨y, rfl, (fun _ => ⟨⟨hn, ALL.out⟩, y1⟩)⟩, hb⟩

theorem szGraph_any (v : Value) (g : Gr) (x : Int) (w : World) (hv : GR w v g) (h0 : g.roots.length ≤ 1000000000000000) (h1 : g.nodes.length ≤ 1000000000000000) (h2 : ∀ n, n ∈ g.nodes → n.fl.length ≤ 1000000000000000) (x0 : 0 ≤ x) (x1 : x ≤ 1048576) :
    Calls Tryz.prog 5 #[v, .int .i64 x] w fun e w' => (∃ y, e = .returned (.int .i64 y) ∧ Hid (0 ≤ y → (g.roots.length ≤ 1048576 ∧ g.nodes.length ≤ 1048576 ∧ ∀ n, n ∈ g.nodes → n.fl.length ≤ 1048576) ∧ y ≤ 1048576)) ∧ Below w.heap.size w w' := by
  obtain ⟨ra, rc, na, nc, rfl, hr, hn⟩ := hv.out
  have b1 := bel_one w (.cells #[.slice ra g.roots.length rc, .slice na g.nodes.length nc, .int .i64 g.hash] 25)
  have R := graphC w (.slice ra g.roots.length rc) (.slice na g.nodes.length nc) g.hash 25
  have S1 := gszInt_any _ g.roots x _ (hr.later b1) h0 x0 x1
  have S2 := fun y => szNodeS_any _ g.nodes y _ (hn.later b1) h1 h2
  clear hr hn h0 h1 h2
  go_enter Tryz.func5, Tryz.ntmps5
  go_wp2_with fail
  refine S1.mono ?_
  rintro e wq ⟨⟨y, rfl, q1⟩, hq⟩
  obtain rfl := hq.symm
  by_cases hy : y < 0
  · go_wp2
    go_ret
    exact ⟨⟨-1, rfl, (fun h => by omega)⟩, b1⟩
  obtain ⟨q2, q3⟩ := q1.out (by omega)
  go_wp2_with fail
  refine (S2 y (by omega) q3).mono ?_
  rintro e w2 ⟨⟨z, rfl, q4⟩, hb2⟩
  by_cases hz : z < 0
  · go_wp2
    go_ret
    exact ⟨⟨-1, rfl, (fun h => by omega)⟩, bel_after b1 hb2⟩
  · go_wp2
    go_ret
    exact ⟨⟨z, rfl, (fun h => ⟨⟨by omega, (q4.out h).1.1, (q4.out h).1.2⟩, (q4.out h).2⟩)⟩, bel_after b1 hb2⟩

end Go.Proofs.YtnppoeifhmkphaaGreatDoor

/- toNode, toNodeS and toGraph of the laws. -/
namespace Go.Proofs.YtnppoeifhmkphaaGreatDoor
open Go.RowKit

def nodF (c z : Value) (f : Value) (i : Nat) : Value := if i = 0 then c else if i = 1 then z else f
theorem nod_row (w : World) (c z f : Value) (t : TypeId) : (w.alloc (.cells #[c, z, f] t)).rowIs w.heap.size t 3 (nodF c z f) :=
  World.rowIs_alloc w #[c, z, f] t _ (fun i hi => by
    match i, hi with
    | 0, _ => rfl
    | 1, _ => rfl
    | 2, _ => rfl)
theorem nod_set {w : World} {b t : Nat} {c z f : Value} (h : w.rowIs b t 3 (nodF c z f)) (i : Nat) (u : Value) (hi : i < 3) : (w.setCell ⟨b, i, none⟩ u).rowIs b t 3 (nodF (if i = 0 then u else c) (if i = 1 then u else z) (if i = 2 then u else f)) :=
  (h.set i u).congr fun j hj => by
    unfold nodF
    match i, hi, j, hj with
    | 0, _, 0, _ => rfl
    | 0, _, 1, _ => rfl
    | 0, _, 2, _ => rfl
    | 1, _, 0, _ => rfl
    | 1, _, 1, _ => rfl
    | 1, _, 2, _ => rfl
    | 2, _, 0, _ => rfl
    | 2, _, 1, _ => rfl
    | 2, _, 2, _ => rfl

set_option maxHeartbeats 1600000 in
theorem toNode_any (c z : Int) (v : Value) (fl : List Int) (w : World) (hv : IR w v fl) (h1 : fl.length ≤ 1000000000) :
    Calls Tryz.prog 39 #[.agg #[.int .i64 c, .int .i64 z, v]] w fun e w' => (∃ fa fc, e = .returned (.agg #[.int .i64 c, .int .i64 z, .slice fa fl.length fc]) ∧ w'.ownsRow w.heap.size 2 1 (.slice fa fl.length fc) fl.length (icells fl)) ∧ Below w.heap.size w w' := by
  obtain ⟨ao, cap, rfl, _, _⟩ := id hv
  have b0 := bel_one w (.cells #[.int .i64 c, .int .i64 z, .slice ao fl.length cap] 56)
  have b1 := bel_one (w.alloc (.cells #[.int .i64 c, .int .i64 z, .slice ao fl.length cap] 56)) (.cells #[.int .i64 0, .int .i64 0, .slice none 0 0] 45)
  have b2 := bel_one ((w.alloc (.cells #[.int .i64 c, .int .i64 z, .slice ao fl.length cap] 56)).alloc (.cells #[.int .i64 0, .int .i64 0, .slice none 0 0] 45)) (.cells #[.int .i64 0, .int .i64 0, .slice none 0 0] 45)
  have A0 := ((nod_row w (.int .i64 c) (.int .i64 z) (.slice ao fl.length cap) 56).of_block (b1.block _ (by simp))).of_block (b2.block _ (by simp; omega))
  have A1 := nod_row (w.alloc (.cells #[.int .i64 c, .int .i64 z, .slice ao fl.length cap] 56)) (.int .i64 0) (.int .i64 0) (.slice none 0 0) 45
  have A2 := nod_row ((w.alloc (.cells #[.int .i64 c, .int .i64 z, .slice ao fl.length cap] 56)).alloc (.cells #[.int .i64 0, .int .i64 0, .slice none 0 0] 45)) (.int .i64 0) (.int .i64 0) (.slice none 0 0) 45
  have A1' := A1.of_block (b2.block _ A1.lt)
  rw [World.size_alloc] at A1'
  rw [World.size_alloc, World.size_alloc] at A2
  have bb := bel_after (bel_after b0 b1) b2
  have sz : (((w.alloc (.cells #[.int .i64 c, .int .i64 z, .slice ao fl.length cap] 56)).alloc (.cells #[.int .i64 0, .int .i64 0, .slice none 0 0] 45)).alloc (.cells #[.int .i64 0, .int .i64 0, .slice none 0 0] 45)).heap.size = w.heap.size + 1 + 1 + 1 := by simp
  generalize hW : (((w.alloc (.cells #[.int .i64 c, .int .i64 z, .slice ao fl.length cap] 56)).alloc (.cells #[.int .i64 0, .int .i64 0, .slice none 0 0] 45)).alloc (.cells #[.int .i64 0, .int .i64 0, .slice none 0 0] 45)) = W at *
  have S1 := nod_set A2 0 (.int .i64 c) (by omega)
  have S2 := nod_set S1 1 (.int .i64 z) (by omega)
  have G2 : Grew W ((W.setCell ⟨w.heap.size + 1 + 1, 0, none⟩ (.int .i64 c)).setCell ⟨w.heap.size + 1 + 1, 1, none⟩ (.int .i64 z)) (fun k => k = w.heap.size + 1 + 1) := (Grew.set _ _ _ _).trans (Grew.set _ _ _ _)
  have B2 : Below w.heap.size w ((W.setCell ⟨w.heap.size + 1 + 1, 0, none⟩ (.int .i64 c)).setCell ⟨w.heap.size + 1 + 1, 1, none⟩ (.int .i64 z)) := bb.trans (G2.below (by omega) fun b _ e => by omega)
  have A02 := G2.row A0 (by omega)
  have A12 := G2.row A1' (by omega)
  have T := gtoInts_any (.slice ao fl.length cap) fl _ (hv.later B2) (by omega)
  have x0 : W.cell? ⟨w.heap.size, 0, none⟩ = some (.int .i64 c) := A0.cell (i := 0) (by omega)
  have y0 : W.cell? ⟨w.heap.size + 1 + 1, 0, none⟩ = some (.int .i64 0) := A2.cell (i := 0) (by omega)
  have f0 := A2.frozen 0
  have x1 : (W.setCell ⟨w.heap.size + 1 + 1, 0, none⟩ (.int .i64 c)).cell? ⟨w.heap.size, 1, none⟩ = some (.int .i64 z) := ((Grew.set W (w.heap.size + 1 + 1) 0 (.int .i64 c)).row A0 (by omega)).cell (i := 1) (by omega)
  have y1 : (W.setCell ⟨w.heap.size + 1 + 1, 0, none⟩ (.int .i64 c)).cell? ⟨w.heap.size + 1 + 1, 1, none⟩ = some (.int .i64 0) := S1.cell (i := 1) (by omega)
  have f1 := S1.frozen 1
  have x2 : ((W.setCell ⟨w.heap.size + 1 + 1, 0, none⟩ (.int .i64 c)).setCell ⟨w.heap.size + 1 + 1, 1, none⟩ (.int .i64 z)).cell? ⟨w.heap.size, 2, none⟩ = some (.slice ao fl.length cap) := A02.cell (i := 2) (by omega)
  have z2 : ((W.setCell ⟨w.heap.size + 1 + 1, 0, none⟩ (.int .i64 c)).setCell ⟨w.heap.size + 1 + 1, 1, none⟩ (.int .i64 z)).heap.size = w.heap.size + 1 + 1 + 1 := by simp [World.setCell, sz]
  generalize hV : (W.setCell ⟨w.heap.size + 1 + 1, 0, none⟩ (.int .i64 c)).setCell ⟨w.heap.size + 1 + 1, 1, none⟩ (.int .i64 z) = V at S2 B2 A12 T x2 z2
  clear A0 A1 A1' A2 S1 G2 A02 b0 b1 b2 bb hv
  go_enter Tryz.func39, Tryz.ntmps39
  go_wp2_with fail
  refine T.mono ?_
  rintro e w3 ⟨⟨f, rfl, ho⟩, hb3⟩
  obtain ⟨fa, fc', hfv⟩ := own_shape ho
  subst hfv
  have Q2 := S2.of_block (hb3.block _ S2.lt)
  have Q1 := A12.of_block (hb3.block _ A12.lt)
  have R2 := nod_set Q2 2 (.slice fa fl.length fc') (by omega)
  have Q1' := (Grew.set w3 (w.heap.size + 1 + 1) 2 (.slice fa fl.length fc')).row Q1 (by omega)
  have y2 : w3.cell? ⟨w.heap.size + 1 + 1, 2, none⟩ = some (.slice none 0 0) := Q2.cell (i := 2) (by omega)
  have f2 := Q2.frozen 2
  have r0 : (w3.setCell ⟨w.heap.size + 1 + 1, 2, none⟩ (.slice fa fl.length fc')).cell? ⟨w.heap.size + 1 + 1, 0, none⟩ = some (.int .i64 c) := R2.cell (i := 0) (by omega)
  have r1 : (w3.setCell ⟨w.heap.size + 1 + 1, 2, none⟩ (.slice fa fl.length fc')).cell? ⟨w.heap.size + 1 + 1, 1, none⟩ = some (.int .i64 z) := R2.cell (i := 1) (by omega)
  have r2 : (w3.setCell ⟨w.heap.size + 1 + 1, 2, none⟩ (.slice fa fl.length fc')).cell? ⟨w.heap.size + 1 + 1, 2, none⟩ = some (.slice fa fl.length fc') := R2.cell (i := 2) (by omega)
  have s0 : (w3.setCell ⟨w.heap.size + 1 + 1, 2, none⟩ (.slice fa fl.length fc')).cell? ⟨w.heap.size + 1, 0, none⟩ = some (.int .i64 0) := Q1'.cell (i := 0) (by omega)
  have s1 : (w3.setCell ⟨w.heap.size + 1 + 1, 2, none⟩ (.slice fa fl.length fc')).cell? ⟨w.heap.size + 1, 1, none⟩ = some (.int .i64 0) := Q1'.cell (i := 1) (by omega)
  have s2 : (w3.setCell ⟨w.heap.size + 1 + 1, 2, none⟩ (.slice fa fl.length fc')).cell? ⟨w.heap.size + 1, 2, none⟩ = some (.slice none 0 0) := Q1'.cell (i := 2) (by omega)
  have g0 := Q1'.frozen 0
  have g1 := Q1'.frozen 1
  have g2 := Q1'.frozen 2
  have G : Grew w3 ((((w3.setCell ⟨w.heap.size + 1 + 1, 2, none⟩ (.slice fa fl.length fc')).setCell ⟨w.heap.size + 1, 0, none⟩ (.int .i64 c)).setCell ⟨w.heap.size + 1, 1, none⟩ (.int .i64 z)).setCell ⟨w.heap.size + 1, 2, none⟩ (.slice fa fl.length fc')) (fun k => k = w.heap.size + 1 + 1 ∨ k = w.heap.size + 1) := ((((Grew.set _ _ _ _).mono fun b _ e => .inl e).trans ((Grew.set _ _ _ _).mono fun b _ e => .inr e)).trans ((Grew.set _ _ _ _).mono fun b _ e => .inr e)).trans ((Grew.set _ _ _ _).mono fun b _ e => .inr e)
  have fin := G.own ho (fun b e q => by have := (ho.lt b e).1; omega)
  have bfin := (B2.trans (hb3.mono (by omega))).trans (G.below (by have := hb3.size; omega) fun b _ e => by omega)
  have FIN : Hid (((((w3.setCell ⟨w.heap.size + 1 + 1, 2, none⟩ (.slice fa fl.length fc')).setCell ⟨w.heap.size + 1, 0, none⟩ (.int .i64 c)).setCell ⟨w.heap.size + 1, 1, none⟩ (.int .i64 z)).setCell ⟨w.heap.size + 1, 2, none⟩ (.slice fa fl.length fc')).ownsRow w.heap.size 2 1 (.slice fa fl.length fc') fl.length (icells fl) ∧ Below w.heap.size w ((((w3.setCell ⟨w.heap.size + 1 + 1, 2, none⟩ (.slice fa fl.length fc')).setCell ⟨w.heap.size + 1, 0, none⟩ (.int .i64 c)).setCell ⟨w.heap.size + 1, 1, none⟩ (.int .i64 z)).setCell ⟨w.heap.size + 1, 2, none⟩ (.slice fa fl.length fc'))) := ⟨gown_mono fin (by omega), bfin⟩
  clear fin bfin G R2 Q1 Q2 Q1' ho
  go_wp2
  exact bodyPost_ret (v := .agg #[.int .i64 c, .int .i64 z, .slice fa fl.length fc']) (by simp [results, Tryz.results39, go_sem, s0, s1, s2]) rfl ⟨⟨_, _, rfl, FIN.out.1⟩, FIN.out.2⟩

/-- The cells of a row of nodes, by their places. -/
def tnC (ns : List Nd) (fv : Nat → Value) (j : Nat) : Value := if j % 3 = 0 then .int .i64 (ns.getD (j / 3) nd0).cls else if j % 3 = 1 then .int .i64 (ns.getD (j / 3) nd0).hash else fv (j / 3)
def tnF (ns : List Nd) (fv : Nat → Value) (f : Nat → Value) (i j : Nat) : Value := if j < i * 3 then tnC ns fv j else f j
theorem tn_next {w : World} {g t N i : Nat} {ns : List Nd} {fv f : Nat → Value} (h : w.rowIs g t N (tnF ns fv f i)) (u : Value) :
    (((w.setCell ⟨g, i * 3, none⟩ (.int .i64 (ns.getD i nd0).cls)).setCell ⟨g, i * 3 + 1, none⟩ (.int .i64 (ns.getD i nd0).hash)).setCell ⟨g, i * 3 + 2, none⟩ u).rowIs g t N (tnF ns (fun j => if j = i then u else fv j) f (i + 1)) := by
  refine (((h.set (i * 3) _).set (i * 3 + 1) _).set (i * 3 + 2) _).congr fun j _ => ?_
  unfold tnF tnC
  by_cases e2 : j = i * 3 + 2
  · subst e2
    rw [if_pos rfl, if_pos (by omega), if_neg (by omega), if_neg (by omega)]
    show u = if (i * 3 + 2) / 3 = i then u else fv ((i * 3 + 2) / 3)
    rw [if_pos (by omega)]
  · rw [if_neg e2]
    by_cases e1 : j = i * 3 + 1
    · subst e1
      rw [if_pos rfl, if_pos (by omega), if_neg (by omega), if_pos (by omega), show (i * 3 + 1) / 3 = i from by omega]
    · rw [if_neg e1]
      by_cases e0 : j = i * 3
      · subst e0
        rw [if_pos rfl, if_pos (by omega), if_pos (by omega), show i * 3 / 3 = i from by omega]
      · rw [if_neg e0]
        by_cases hl : j < i * 3
        · have hl2 : j < (i + 1) * 3 := by omega
          rw [if_pos hl, if_pos hl2]
          have : ¬ j / 3 = i := by omega
          simp only [this, if_false]
        · rw [if_neg hl, if_neg (by omega)]
theorem tn_own {w : World} {g n : Nat} {ns : List Nd} {fv f : Nat → Value} {B : Nat} (hn : ns.length = n) (h : w.rowIs g 45 (n * 3) (tnF ns fv f n)) (hm : n ≤ 1000000000) (hB : B ≤ g) (hf : ∀ i, i < n → w.ownsRow B 2 1 (fv i) (ns.getD i nd0).fl.length (icells (ns.getD i nd0).fl)) (ha : ∀ i j, i < n → j < n → i ≠ j → ∀ b, (fv i).ownBlock = some b → (fv j).ownBlock ≠ some b) :
    NOwn B w (.slice (some ⟨g, 0, none⟩) n n) ns fv := by
  subst hn
  refine ⟨(List.range (ns.length * 3)).map (tnC ns fv), own_of_row h (by unfold maxLen; omega) hB (by simp) (fun i hi => ?_), ⟨by simp, fun i hi => ⟨?_, ?_, ?_⟩⟩, hf, ha⟩
  · unfold tnF
    rw [if_pos hi]
    simp [hi]
  · have q : i * 3 < ns.length * 3 := by omega
    simp only [List.getElem?_map, List.getElem?_range q, Option.map_some]
    unfold tnC
    rw [if_pos (by omega), show i * 3 / 3 = i from by omega]
  · have q : i * 3 + 1 < ns.length * 3 := by omega
    simp only [List.getElem?_map, List.getElem?_range q, Option.map_some]
    unfold tnC
    rw [if_neg (by omega), if_pos (by omega), show (i * 3 + 1) / 3 = i from by omega]
  · have q : i * 3 + 2 < ns.length * 3 := by omega
    simp only [List.getElem?_map, List.getElem?_range q, Option.map_some]
    unfold tnC
    rw [if_neg (by omega), if_neg (by omega), show (i * 3 + 2) / 3 = i from by omega]

theorem Tryz.infoNn : (Tryz.prog.info? 45).map (fun i => (i.zero, i.size, i.bytes)) = some (some (.agg #[.int .i64 0, .int .i64 0, .slice none 0 0]), 3, 40) := by kernel_rfl
theorem make_nodesN (n : Nat) (hn : n ≤ 1000000000) (w : World) : ∃ C : Array Value, C.size = n * 3 ∧ (Instr.makeSlice 28 (.int .i64 (n : Int)) (.int .i64 (n : Int))).run Tryz.prog w = .ok (.slice (some ⟨w.heap.size, 0, none⟩) n n) (w.alloc (.cells C 45)) := by
  obtain ⟨i, hi, hzz⟩ := Option.map_eq_some_iff.1 Tryz.infoNn
  simp only [Prod.mk.injEq] at hzz
  obtain ⟨hz, hsz, hby⟩ := hzz
  have h := run_make (P := Tryz.prog) w 28 45 i _ Tryz.underlying28 hi hz .i64 .i64 (n : Int) (n : Int) (by omega) (Int.le_refl _) (by rw [hby]; omega) (by omega)
  simp only [Int.toNat_natCast] at h
  exact ⟨_, by rw [size_madeCells, hsz], h⟩

set_option maxRecDepth 100000 in
set_option maxHeartbeats 1600000 in
theorem toNodeS_any (v : Value) (ns : List Nd) (w : World) (hv : NR w v ns) (h1 : ns.length ≤ 1000000000) (h2 : ∀ n, n ∈ ns → n.fl.length ≤ 1000000000) :
    Calls Tryz.prog 24 #[v] w fun e w' => (∃ fv, e = .returned (.slice (some ⟨w.heap.size, 0, none⟩) ns.length ns.length) ∧ NOwn w.heap.size w' (.slice (some ⟨w.heap.size, 0, none⟩) ns.length ns.length) ns fv) ∧ Below w.heap.size w w' := by
  obtain ⟨va, vc, rfl, _, hvc⟩ := hv
  obtain ⟨C, hC, hmk⟩ := make_nodesN ns.length h1 w
  have R0 := row_any w C 45
  rw [hC] at R0
  have HR : Hid ((w.alloc (.cells C 45)).rowIs w.heap.size 45 (ns.length * 3) (tnF ns (fun _ => .slice none 0 0) (fun i => C[i]?.getD undef) 0)) := R0.congr fun i _ => by unfold tnF; rw [if_neg (by omega)]
  have hb0 := bel_one w (.cells C 45)
  clear R0
  generalize hf : (fun i : Nat => C[i]?.getD undef) = f at *
  go_enter Tryz.func24, Tryz.ntmps24
  go_wp2
  go_loopw [4] (fun iv wr => ∃ (i : Nat) (fv : Nat → Value), i ≤ ns.length ∧ iv = .int .i64 i ∧ wr.rowIs w.heap.size 45 (ns.length * 3) (tnF ns fv f i) ∧ (∀ j, j < i → wr.ownsRow (w.heap.size + 1) 2 1 (fv j) (ns.getD j nd0).fl.length (icells (ns.getD j nd0).fl)) ∧ (∀ a b, a < i → b < i → a ≠ b → ∀ c, (fv a).ownBlock = some c → (fv b).ownBlock ≠ some c) ∧ Below w.heap.size w wr) (fun iv _ => ns.length - (intOf iv).toNat)
  case atStart => exact ⟨0, _, Nat.zero_le _, rfl, HR.out, fun j hj => absurd hj (by omega), fun a b ha => absurd ha (by omega), hb0⟩
  case round =>
    obtain ⟨i, fv, hi, rfl, hrow, hown, hap, hb⟩ := hrel
    by_cases hil : i < ns.length
    · obtain ⟨vb, vo, fa, fn, fc, rfl, c0, c1, c2, cr⟩ := hvc i hil
      have e0 := cell_later hb c0
      have e1 := cell_later hb c1
      have e2 := cell_later hb c2
      have hii : (i : Int) < ns.length := by omega
      have TN := toNode_any (ns.getD i nd0).cls (ns.getD i nd0).hash (.slice fa fn fc) (ns.getD i nd0).fl wr (cr.later hb) (h2 _ (by simp [hil]))
      have NX : Hid (∀ (w2 : World) ga gc, w2.ownsRow wr.heap.size 2 1 (.slice ga (ns.getD i nd0).fl.length gc) (ns.getD i nd0).fl.length (icells (ns.getD i nd0).fl) → Below wr.heap.size wr w2 → (w2.rowIs w.heap.size 45 (ns.length * 3) (tnF ns fv f i)) ∧
        (let W := ((w2.setCell ⟨w.heap.size, i * 3, none⟩ (.int .i64 (ns.getD i nd0).cls)).setCell ⟨w.heap.size, i * 3 + 1, none⟩ (.int .i64 (ns.getD i nd0).hash)).setCell ⟨w.heap.size, i * 3 + 2, none⟩ (.slice ga (ns.getD i nd0).fl.length gc)
         ∃ fv', W.rowIs w.heap.size 45 (ns.length * 3) (tnF ns fv' f (i + 1)) ∧ (∀ j, j < i + 1 → W.ownsRow (w.heap.size + 1) 2 1 (fv' j) (ns.getD j nd0).fl.length (icells (ns.getD j nd0).fl)) ∧ (∀ a b, a < i + 1 → b < i + 1 → a ≠ b → ∀ c, (fv' a).ownBlock = some c → (fv' b).ownBlock ≠ some c) ∧ Below w.heap.size w W)) := fun w2 ga gc ho2 hb2 => by
        have r2 := hrow.of_block (hb2.block _ hrow.lt)
        have glt := hrow.lt
        refine ⟨r2, fun j => if j = i then .slice ga (ns.getD i nd0).fl.length gc else fv j, tn_next r2 _, fun j hj => ?_, fun a b ha hb' ne c e => ?_, ?_⟩
        · have G : Grew w2 (((w2.setCell ⟨w.heap.size, i * 3, none⟩ (.int .i64 (ns.getD i nd0).cls)).setCell ⟨w.heap.size, i * 3 + 1, none⟩ (.int .i64 (ns.getD i nd0).hash)).setCell ⟨w.heap.size, i * 3 + 2, none⟩ (.slice ga (ns.getD i nd0).fl.length gc)) (fun k => k = w.heap.size) := ((Grew.set _ _ _ _).trans (Grew.set _ _ _ _)).trans (Grew.set _ _ _ _)
          dsimp only
          by_cases e : j = i
          · subst e
            rw [if_pos rfl]
            exact gown_mono (G.own ho2 (fun b e q => by have := (ho2.lt b e).1; omega)) (by omega)
          · rw [if_neg e]
            exact G.own (own_later (hown j (by omega)) hb2) (fun b e q => by have := ((hown j (by omega)).lt b e).1; omega)
        · dsimp only at e ⊢
          by_cases ea : a = i
          · rw [if_pos ea] at e
            rw [if_neg (by omega)]
            intro q
            have h1 := (ho2.lt c e).1
            have h2 := ((hown b (by omega)).lt c q).2
            omega
          · rw [if_neg ea] at e
            by_cases eb : b = i
            · rw [if_pos eb]
              intro q
              have h1 := (ho2.lt c q).1
              have h2 := ((hown a (by omega)).lt c e).2
              omega
            · rw [if_neg eb]
              exact hap a b (by omega) (by omega) ne c e
        · have G : Grew w2 (((w2.setCell ⟨w.heap.size, i * 3, none⟩ (.int .i64 (ns.getD i nd0).cls)).setCell ⟨w.heap.size, i * 3 + 1, none⟩ (.int .i64 (ns.getD i nd0).hash)).setCell ⟨w.heap.size, i * 3 + 2, none⟩ (.slice ga (ns.getD i nd0).fl.length gc)) (fun k => k = w.heap.size) := ((Grew.set _ _ _ _).trans (Grew.set _ _ _ _)).trans (Grew.set _ _ _ _)
          exact (hb.trans (hb2.mono hb.size)).trans (G.below (by have := hb2.size; omega) fun b _ e => by omega)
      clear c0 c1 c2 cr hvc h2 hrow hown hap hmk HR
      generalize (ns.getD i nd0).cls = x0 at *
      generalize (ns.getD i nd0).hash = x1 at *
      go_wp2_with fail
      refine TN.mono ?_
      rintro e w2 ⟨⟨ga, gc, rfl, ho2⟩, hb2⟩
      obtain ⟨r2, fv', q1, q2, q3, q4⟩ := NX.out w2 ga gc ho2 hb2
      have HF : Hid (∃ fv' : Nat → Value, (((w2.setCell ⟨w.heap.size, i * 3, none⟩ (.int .i64 x0)).setCell ⟨w.heap.size, i * 3 + 1, none⟩ (.int .i64 x1)).setCell ⟨w.heap.size, i * 3 + 2, none⟩ (.slice ga (ns.getD i nd0).fl.length gc)).rowIs w.heap.size 45 (ns.length * 3) (tnF ns fv' f (i + 1)) ∧ (∀ j, j < i + 1 → (((w2.setCell ⟨w.heap.size, i * 3, none⟩ (.int .i64 x0)).setCell ⟨w.heap.size, i * 3 + 1, none⟩ (.int .i64 x1)).setCell ⟨w.heap.size, i * 3 + 2, none⟩ (.slice ga (ns.getD i nd0).fl.length gc)).ownsRow (w.heap.size + 1) 2 1 (fv' j) (ns.getD j nd0).fl.length (icells (ns.getD j nd0).fl)) ∧ (∀ a b, a < i + 1 → b < i + 1 → a ≠ b → ∀ c, (fv' a).ownBlock = some c → (fv' b).ownBlock ≠ some c) ∧ Below w.heap.size w (((w2.setCell ⟨w.heap.size, i * 3, none⟩ (.int .i64 x0)).setCell ⟨w.heap.size, i * 3 + 1, none⟩ (.int .i64 x1)).setCell ⟨w.heap.size, i * 3 + 2, none⟩ (.slice ga (ns.getD i nd0).fl.length gc))) := ⟨fv', q1, q2, q3, q4⟩
      have z0 := r2.cell (i := i * 3) (by omega)
      have z1 := r2.cell (i := i * 3 + 1) (by omega)
      have z2 := r2.cell (i := i * 3 + 2) (by omega)
      have f0 := r2.frozen (i * 3)
      have f1 := r2.frozen (i * 3 + 1)
      have f2 := r2.frozen (i * 3 + 2)
      generalize tnF ns fv f i (i * 3) = v0 at *
      generalize tnF ns fv f i (i * 3 + 1) = v1 at *
      generalize tnF ns fv f i (i * 3 + 2) = v2 at *
      clear NX r2 q1 q2 q3 q4 ho2 TN
      generalize (ns.getD i nd0).fl.length = m at *
      go_wp2
      obtain ⟨fv'', s1, s2, s3, s4⟩ := HF.out
      exact ⟨⟨i + 1, fv'', by omega, by go_num, s1, s2, s3, s4⟩, by simp [intOf]; omega⟩
    · obtain rfl : i = ns.length := by omega
      have NW := tn_own (B := w.heap.size) rfl hrow h1 (Nat.le_refl _) (fun j hj => gown_mono (hown j hj) (by omega)) hap
      have HN : Hid (NOwn w.heap.size wr (.slice (some ⟨w.heap.size, 0, none⟩) ns.length ns.length) ns fv) := NW
      clear hvc h2 hil NW hrow hown hap hmk HR
      go_wp2
      go_ret
      exact ⟨⟨fv, rfl, HN.out⟩, hb⟩

set_option maxRecDepth 100000 in
set_option maxHeartbeats 1600000 in
theorem toGraph_any (v : Value) (g : Gr) (w : World) (hv : GR w v g) (h0 : g.roots.length ≤ 1000000000) (h1 : g.nodes.length ≤ 1000000000) (h2 : ∀ n, n ∈ g.nodes → n.fl.length ≤ 1000000000) :
    Calls Tryz.prog 7 #[v] w fun e w' => (∃ v', e = .returned v' ∧ GN w.heap.size w' v' g) ∧ Below w.heap.size w w' := by
  obtain ⟨ra, rc, na, nc, rfl, hr, hn⟩ := hv.out
  have b0 := bel_one w (.cells #[.slice ra g.roots.length rc, .slice na g.nodes.length nc, .int .i64 g.hash] 25)
  have b1 := bel_one (w.alloc (.cells #[.slice ra g.roots.length rc, .slice na g.nodes.length nc, .int .i64 g.hash] 25)) (.cells #[.slice none 0 0, .slice none 0 0, .int .i64 0] 30)
  have b2 := bel_one ((w.alloc (.cells #[.slice ra g.roots.length rc, .slice na g.nodes.length nc, .int .i64 g.hash] 25)).alloc (.cells #[.slice none 0 0, .slice none 0 0, .int .i64 0] 30)) (.cells #[.slice none 0 0, .slice none 0 0, .int .i64 0] 30)
  have A0 := ((nod_row w (.slice ra g.roots.length rc) (.slice na g.nodes.length nc) (.int .i64 g.hash) 25).of_block (b1.block _ (by simp))).of_block (b2.block _ (by simp; omega))
  have A1 := nod_row (w.alloc (.cells #[.slice ra g.roots.length rc, .slice na g.nodes.length nc, .int .i64 g.hash] 25)) (.slice none 0 0) (.slice none 0 0) (.int .i64 0) 30
  have A2 := nod_row ((w.alloc (.cells #[.slice ra g.roots.length rc, .slice na g.nodes.length nc, .int .i64 g.hash] 25)).alloc (.cells #[.slice none 0 0, .slice none 0 0, .int .i64 0] 30)) (.slice none 0 0) (.slice none 0 0) (.int .i64 0) 30
  have A1' := A1.of_block (b2.block _ A1.lt)
  rw [World.size_alloc] at A1'
  rw [World.size_alloc, World.size_alloc] at A2
  have bb := bel_after (bel_after b0 b1) b2
  have sz : (((w.alloc (.cells #[.slice ra g.roots.length rc, .slice na g.nodes.length nc, .int .i64 g.hash] 25)).alloc (.cells #[.slice none 0 0, .slice none 0 0, .int .i64 0] 30)).alloc (.cells #[.slice none 0 0, .slice none 0 0, .int .i64 0] 30)).heap.size = w.heap.size + 1 + 1 + 1 := by simp
  generalize hW : (((w.alloc (.cells #[.slice ra g.roots.length rc, .slice na g.nodes.length nc, .int .i64 g.hash] 25)).alloc (.cells #[.slice none 0 0, .slice none 0 0, .int .i64 0] 30)).alloc (.cells #[.slice none 0 0, .slice none 0 0, .int .i64 0] 30)) = W at *
  have T1 := gtoInts_any (.slice ra g.roots.length rc) g.roots W (hr.later bb) (by omega)
  have T2 := fun V (q : Below w.heap.size w V) => toNodeS_any (.slice na g.nodes.length nc) g.nodes V (hn.later q) h1 h2
  have x0 : W.cell? ⟨w.heap.size, 0, none⟩ = some (.slice ra g.roots.length rc) := A0.cell (i := 0) (by omega)
  clear hr hn hv
  go_enter Tryz.func7, Tryz.ntmps7
  go_wp2_with fail
  refine T1.mono ?_
  rintro e w1 ⟨⟨rv, rfl, ho⟩, hb1⟩
  obtain ⟨qa, qc, hrv⟩ := own_shape ho
  subst hrv
  have s1 := hb1.size
  have C0 := A0.of_block (hb1.block _ A0.lt)
  have C1 := A1'.of_block (hb1.block _ A1'.lt)
  have C2 := A2.of_block (hb1.block _ A2.lt)
  have y0 : w1.cell? ⟨w.heap.size + 1 + 1, 0, none⟩ = some (.slice none 0 0) := C2.cell (i := 0) (by omega)
  have f0 := C2.frozen 0
  have D2 := nod_set C2 0 (.slice qa g.roots.length qc) (by omega)
  have GA := Grew.set w1 (w.heap.size + 1 + 1) 0 (.slice qa g.roots.length qc)
  have D0 := GA.row C0 (by omega)
  have D1 := GA.row C1 (by omega)
  have hoA := GA.own ho (fun b e q => by have := (ho.lt b e).1; omega)
  have BA : Below w.heap.size w (w1.setCell ⟨w.heap.size + 1 + 1, 0, none⟩ (.slice qa g.roots.length qc)) := (bb.trans (hb1.mono (by omega))).trans (GA.below (by omega) fun b _ e => by omega)
  have x1 : (w1.setCell ⟨w.heap.size + 1 + 1, 0, none⟩ (.slice qa g.roots.length qc)).cell? ⟨w.heap.size, 1, none⟩ = some (.slice na g.nodes.length nc) := D0.cell (i := 1) (by omega)
  have zA : (w1.setCell ⟨w.heap.size + 1 + 1, 0, none⟩ (.slice qa g.roots.length qc)).heap.size = w1.heap.size := by simp [World.setCell]
  have T2' := T2 _ BA
  generalize hwA : w1.setCell ⟨w.heap.size + 1 + 1, 0, none⟩ (.slice qa g.roots.length qc) = wA at D2 D0 D1 hoA BA x1 zA T2'
  clear T2 A0 A1 A1' A2 C0 C1 C2 ho
  go_wp2_with fail
  refine T2'.mono ?_
  rintro e w2 ⟨⟨fv, rfl, hno⟩, hb2⟩
  have s2 := hb2.size
  have E0 := D0.of_block (hb2.block _ D0.lt)
  have E1 := D1.of_block (hb2.block _ D1.lt)
  have E2 := D2.of_block (hb2.block _ D2.lt)
  have ho2 := own_later hoA hb2
  have y1 : w2.cell? ⟨w.heap.size + 1 + 1, 1, none⟩ = some (.slice none 0 0) := E2.cell (i := 1) (by omega)
  have f1 := E2.frozen 1
  have F2 := nod_set E2 1 (.slice (some ⟨wA.heap.size, 0, none⟩) g.nodes.length g.nodes.length) (by omega)
  have GB := Grew.set w2 (w.heap.size + 1 + 1) 1 (.slice (some ⟨wA.heap.size, 0, none⟩) g.nodes.length g.nodes.length)
  have F0 := GB.row E0 (by omega)
  have F1 := GB.row E1 (by omega)
  have x2 : (w2.setCell ⟨w.heap.size + 1 + 1, 1, none⟩ (.slice (some ⟨wA.heap.size, 0, none⟩) g.nodes.length g.nodes.length)).cell? ⟨w.heap.size, 2, none⟩ = some (.int .i64 g.hash) := F0.cell (i := 2) (by omega)
  have y2 : (w2.setCell ⟨w.heap.size + 1 + 1, 1, none⟩ (.slice (some ⟨wA.heap.size, 0, none⟩) g.nodes.length g.nodes.length)).cell? ⟨w.heap.size + 1 + 1, 2, none⟩ = some (.int .i64 0) := F2.cell (i := 2) (by omega)
  have f2 := F2.frozen 2
  have H2 := nod_set F2 2 (.int .i64 g.hash) (by omega)
  have GC := Grew.set (w2.setCell ⟨w.heap.size + 1 + 1, 1, none⟩ (.slice (some ⟨wA.heap.size, 0, none⟩) g.nodes.length g.nodes.length)) (w.heap.size + 1 + 1) 2 (.int .i64 g.hash)
  have H1 := GC.row F1 (by omega)
  have GD : Grew w2 ((w2.setCell ⟨w.heap.size + 1 + 1, 1, none⟩ (.slice (some ⟨wA.heap.size, 0, none⟩) g.nodes.length g.nodes.length)).setCell ⟨w.heap.size + 1 + 1, 2, none⟩ (.int .i64 g.hash)) (fun k => k = w.heap.size + 1 + 1) := GB.trans GC
  generalize hwC : (w2.setCell ⟨w.heap.size + 1 + 1, 1, none⟩ (.slice (some ⟨wA.heap.size, 0, none⟩) g.nodes.length g.nodes.length)).setCell ⟨w.heap.size + 1 + 1, 2, none⟩ (.int .i64 g.hash) = wC at H2 H1 GD
  have r0 : wC.cell? ⟨w.heap.size + 1 + 1, 0, none⟩ = some (.slice qa g.roots.length qc) := H2.cell (i := 0) (by omega)
  have r1 : wC.cell? ⟨w.heap.size + 1 + 1, 1, none⟩ = some (.slice (some ⟨wA.heap.size, 0, none⟩) g.nodes.length g.nodes.length) := H2.cell (i := 1) (by omega)
  have r2 : wC.cell? ⟨w.heap.size + 1 + 1, 2, none⟩ = some (.int .i64 g.hash) := H2.cell (i := 2) (by omega)
  have t0 : wC.cell? ⟨w.heap.size + 1, 0, none⟩ = some (.slice none 0 0) := H1.cell (i := 0) (by omega)
  have t1 : wC.cell? ⟨w.heap.size + 1, 1, none⟩ = some (.slice none 0 0) := H1.cell (i := 1) (by omega)
  have t2 : wC.cell? ⟨w.heap.size + 1, 2, none⟩ = some (.int .i64 0) := H1.cell (i := 2) (by omega)
  have k0 := H1.frozen 0
  have k1 := H1.frozen 1
  have k2 := H1.frozen 2
  have GE : Grew wC (((wC.setCell ⟨w.heap.size + 1, 0, none⟩ (.slice qa g.roots.length qc)).setCell ⟨w.heap.size + 1, 1, none⟩ (.slice (some ⟨wA.heap.size, 0, none⟩) g.nodes.length g.nodes.length)).setCell ⟨w.heap.size + 1, 2, none⟩ (.int .i64 g.hash)) (fun k => k = w.heap.size + 1) := ((Grew.set _ _ _ _).trans (Grew.set _ _ _ _)).trans (Grew.set _ _ _ _)
  have GG : Grew w2 (((wC.setCell ⟨w.heap.size + 1, 0, none⟩ (.slice qa g.roots.length qc)).setCell ⟨w.heap.size + 1, 1, none⟩ (.slice (some ⟨wA.heap.size, 0, none⟩) g.nodes.length g.nodes.length)).setCell ⟨w.heap.size + 1, 2, none⟩ (.int .i64 g.hash)) (fun k => k = w.heap.size + 1 + 1 ∨ k = w.heap.size + 1) := (GD.mono fun b _ e => .inl e).trans (GE.mono fun b _ e => .inr e)
  have FIN : Hid (GN w.heap.size (((wC.setCell ⟨w.heap.size + 1, 0, none⟩ (.slice qa g.roots.length qc)).setCell ⟨w.heap.size + 1, 1, none⟩ (.slice (some ⟨wA.heap.size, 0, none⟩) g.nodes.length g.nodes.length)).setCell ⟨w.heap.size + 1, 2, none⟩ (.int .i64 g.hash)) (.agg #[.slice qa g.roots.length qc, .slice (some ⟨wA.heap.size, 0, none⟩) g.nodes.length g.nodes.length, .int .i64 g.hash]) g ∧ Below w.heap.size w (((wC.setCell ⟨w.heap.size + 1, 0, none⟩ (.slice qa g.roots.length qc)).setCell ⟨w.heap.size + 1, 1, none⟩ (.slice (some ⟨wA.heap.size, 0, none⟩) g.nodes.length g.nodes.length)).setCell ⟨w.heap.size + 1, 2, none⟩ (.int .i64 g.hash))) := by
    refine ⟨⟨_, _, fv, rfl, gown_mono (GG.own ho2 (fun b e q => by have := (ho2.lt b e).1; omega)) (by omega), ?_, fun i hi b e q => ?_⟩, (BA.trans (hb2.mono (by omega))).trans (GG.below (by omega) fun b _ e => by omega)⟩
    · have n2 := GG.nown hno (fun b e => by omega)
      obtain ⟨xs, no, nt, nf, nap⟩ := n2
      exact ⟨xs, gown_mono no (by omega), nt, fun i hi => gown_mono (nf i hi) (by omega), nap⟩
    · obtain ⟨xs, no, nt, nf, nap⟩ := hno
      have h1 := ((nf i hi).lt b q).1
      have h2 := (hoA.lt b e).2
      omega
  clear GD GE GG GB GC H1 H2 F0 F1 F2 E0 E1 E2 D0 D1 D2 hno ho2 hoA zA sz s1 s2
  go_wp2
  exact bodyPost_ret (v := .agg #[.slice qa g.roots.length qc, .slice (some ⟨wA.heap.size, 0, none⟩) g.nodes.length g.nodes.length, .int .i64 g.hash]) (by simp [results, Tryz.results7, go_sem, t0, t1, t2]) rfl ⟨⟨_, rfl, FIN.out.1⟩, FIN.out.2⟩

end Go.Proofs.YtnppoeifhmkphaaGreatDoor
