import Derived.Test.YtnppoeifhmkphaaGreatDoorZGMark
import Derived.Test.YtnppoeifhmkphaaGreatDoorZGLawK
import Derived.Test.YtnppoeifhmkphaaGreatDoorZHLawN
/- markGraph of the laws. -/
namespace Go.Proofs.YtnppoeifhmkphaaGreatDoor
open Go.RowKit

theorem markGraph_any (B : Nat) (vr vn : Value) (fv : Nat → Value) (g : Gr) (k : Int) (w : World) (hr : w.ownsRow B 2 1 vr g.roots.length (icells g.roots)) (hn : NOwn B w vn g.nodes fv) (ha : ∀ i, i < g.nodes.length → ∀ b, vr.ownBlock = some b → (fv i).ownBlock ≠ some b)
    (h0 : 0 < k) (h1 : mkK (k + g.roots.length) g.nodes g.nodes.length ≤ 1000000000000) (h2 : g.nodes.length ≤ 1000000000000) :
    Calls Tryz.prog 13 #[.agg #[vr, vn, .int .i64 g.hash], .int .i64 k] w fun e w' => (e = .returned (.int .i64 (mkK (k + g.roots.length) g.nodes g.nodes.length)) ∧ IR w' vr (imarks k g.roots.length) ∧ NR w' vn (nmk (k + g.roots.length) g.nodes)) ∧ Grew w w' (fun b => vr.ownBlock = some b ∨ vn.ownBlock = some b ∨ ∃ j, j < g.nodes.length ∧ (fv j).ownBlock = some b) := by
  have bb := mkK_bounds (k + g.roots.length) g.nodes g.nodes.length (Nat.le_refl _)
  obtain ⟨ra, rc, hvr⟩ := own_shape hr
  have hcap : ∃ ao cap, vr = .slice ao g.roots.length cap ∧ g.roots.length ≤ cap := by
    obtain ⟨ao, cap, e, hc, _⟩ := own_cell hr
    exact ⟨ao, cap, e, hc⟩
  have hnv : ∃ na nc, vn = .slice na g.nodes.length nc := by
    obtain ⟨xs, ho, _⟩ := hn
    exact own_shape ho
  obtain ⟨na, nc, hnv⟩ := hnv
  have hb0 := bel_one w (.cells #[vr, vn, .int .i64 g.hash] 30)
  have R0 := graphC w vr vn g.hash 30
  have hr0 := own_later hr hb0
  have hn0 := (Grew.new hb0 (fun _ => False)).nown hn (fun _ q => q.elim)
  have E1 := markInt64S_any vr g.roots.length k _ (OS_of_owns hr0) hcap h0 (by omega)
  have vrl : ∀ b, vr.ownBlock = some b → B ≤ b ∧ b < w.heap.size := fun b e => hr.lt b e
  have NV : Hid (∀ w1, (w.alloc (.cells #[vr, vn, .int .i64 g.hash] 30)).grownBy w1 (Disk.rowOf vr g.roots.length) → NOwn B w1 vn g.nodes fv) := fun w1 g1 => by
    have G1 : Grew _ w1 (fun b => vr.ownBlock = some b) := (Grew.grown g1).mono fun b _ e => rowOf_own e
    obtain ⟨xs, ho, ht, hf, hp⟩ := hn0
    exact ⟨xs, G1.own ho (fun b e q => type_ne hr0 ho (by decide) q e), ht, fun i hi => G1.own (hf i hi) (fun b e q => ha i hi b q e), hp⟩
  have E2 := fun W q => markNodeS_any B vn g.nodes fv (k + g.roots.length) W q (by omega) h1 h2
  have TN : Hid (∀ b, vr.ownBlock = some b → vn.ownBlock ≠ some b) := fun b e => by
    obtain ⟨xs, ho, _⟩ := hn
    exact type_ne hr ho (by decide) e
  have HA : Hid (∀ i, i < g.nodes.length → ∀ b, vr.ownBlock = some b → (fv i).ownBlock ≠ some b) := ha
  have IB : Hid (∀ b, inB vr b → vr.ownBlock = some b) := fun b e => inB_own hr e
  generalize mkK (k + g.roots.length) g.nodes g.nodes.length = z at *
  clear hr hn hr0 hn0 ha hcap
  subst hvr hnv
  go_enter Tryz.func13, Tryz.ntmps13
  go_wp2_with fail
  refine E1.mono ?_
  rintro e w1 ⟨rfl, g1, m1⟩
  have G1 : Grew w w1 (fun b => Value.ownBlock (.slice ra g.roots.length rc) = some b) := (Grew.new hb0 _).trans ((Grew.grown g1).mono fun b _ e => rowOf_own e)
  have Q0 := (Grew.grown g1).row R0 (fun e => by have := (vrl _ (rowOf_own e)).2; omega)
  have a1 : w1.cell? ⟨w.heap.size, 1, none⟩ = some (.slice na g.nodes.length nc) := Q0.cell (i := 1) (by omega)
  have N1 := NV.out w1 g1
  go_wp2_with fail
  refine (E2 w1 N1).mono ?_
  rintro e w2 ⟨⟨rfl, n2⟩, g2⟩
  have FIN : Hid (IR w2 (.slice ra g.roots.length rc) (imarks k g.roots.length) ∧ Grew w w2 (fun b => Value.ownBlock (.slice ra g.roots.length rc) = some b ∨ Value.ownBlock (.slice na g.nodes.length nc) = some b ∨ ∃ j, j < g.nodes.length ∧ (fv j).ownBlock = some b)) := by
    refine ⟨g2.ir m1 (fun b e q => ?_), (G1.mono fun b _ e => .inl e).trans (g2.mono fun b _ e => .inr e)⟩
    have ev := IB.out b e
    rcases q with q | ⟨j, hj, q⟩
    · exact TN.out b ev q
    · exact HA.out j hj b ev q
  go_wp2
  go_ret
  exact ⟨⟨rfl, FIN.out.1, n2⟩, FIN.out.2⟩

end Go.Proofs.YtnppoeifhmkphaaGreatDoor

/- markGraph of the laws, for a graph as great as the law lets in. -/
namespace Go.Proofs.YtnppoeifhmkphaaGreatDoor
open Go.RowKit

theorem mkK_lim {k : Int} {ns : List Nd} {m : Nat} (h : ∀ n, n ∈ ns → n.fl.length ≤ m) : mkK k ns ns.length ≤ k + ((2 + m) * ns.length : Nat) := by
  unfold mkK
  rw [List.take_length]
  have : (ns.map fun n => 2 + n.fl.length).sum ≤ (2 + m) * ns.length := by
    induction ns with
    | nil => simp
    | cons x r ih =>
      have h1 := h x (by simp)
      have h2 := ih (fun n hn => h n (List.mem_cons_of_mem _ hn))
      simp only [List.map_cons, List.sum_cons, List.length_cons, Nat.mul_succ]
      omega
  omega

set_option maxRecDepth 100000 in
set_option maxHeartbeats 1600000 in
theorem markNodeS_big (B : Nat) (nv : Value) (ns : List Nd) (fv : Nat → Value) (k : Int) (w : World) (hv : NOwn B w nv ns fv) (h0 : 0 < k) (h1 : mkK k ns ns.length ≤ 10000000000000) (h2 : ns.length ≤ 10000000000000) :
    Calls Tryz.prog 32 #[nv, .int .i64 k] w fun e w' => (e = .returned (.int .i64 (mkK k ns ns.length)) ∧ NR w' nv (nmk k ns)) ∧ Grew w w' (fun b => nv.ownBlock = some b ∨ ∃ j, j < ns.length ∧ (fv j).ownBlock = some b) := by
  obtain ⟨xs, ho, ht, hf, ha⟩ := hv
  rcases ho.2 with ⟨rfl, hz⟩ | ⟨g, cap, cur, rfl, hB, hh, hc, _, hcs, htk⟩
  · have hn : ns = [] := List.eq_nil_of_length_eq_zero hz
    subst hn
    have G : Hid (∀ e, e = Ending.returned (.int .i64 k) → (e = .returned (.int .i64 (mkK k [] ([] : List Nd).length)) ∧ NR w (.slice none 0 0) (nmk k [])) ∧ Grew w w (fun b => Value.ownBlock (.slice none 0 0) = some b ∨ ∃ j, j < ([] : List Nd).length ∧ (fv j).ownBlock = some b)) := fun e he => ⟨⟨by rw [he]; simp [mkK], ⟨none, 0, rfl, Nat.le_refl _, fun i hi => absurd hi (Nat.not_lt_zero i)⟩⟩, Grew.refl _ _⟩
    clear hf ha ht ho h1 h2 hz
    go_enter Tryz.func32, Tryz.ntmps32
    go_wp2
    refine wp_loop_rounds 1 ?_
    rw [rounds_succ]
    go_wp2
    go_ret
    exact G.out _ rfl
  · have R0 : w.rowIs g 45 cur.size (fun j => cur[j]?.getD undef) := ⟨cur, hh, rfl, fun i hi => by simp [hi]⟩
    have FV : Hid (∀ i, i < ns.length → (fun j => cur[j]?.getD undef) (i * 3 + 2) = fv i) := fun i hi => by
      have h3 := (ht.2 i hi).2.2
      rw [← htk, List.getElem?_take_of_lt (by omega)] at h3
      simp only [Array.getElem?_toList] at h3
      simp [h3]
    have szc : ns.length * 3 ≤ cur.size := by rw [hcs]; exact Nat.mul_le_mul_right _ hc
    have S0 : MkSt w w g cur.size k ns (fun j => cur[j]?.getD undef) fv 0 B := ⟨R0.congr (fun i _ => (mkF_zero k ns (fun j => cur[j]?.getD undef) i).symm), fun j hj => by omega, fun j _ hj => hf j hj, Grew.refl _ _⟩
    have HA : Hid (∀ i j, i < ns.length → j < ns.length → i ≠ j → ∀ b, (fv i).ownBlock = some b → (fv j).ownBlock ≠ some b) := ha
    have TG : Hid (∀ i, i < ns.length → (fv i).ownBlock ≠ some g) := fun i hi => type_ne ho (hf i hi) (by decide) rfl
    have SH : Hid (∀ i, i < ns.length → ∃ ao c, fv i = .slice ao (ns.getD i nd0).fl.length c) := fun i hi => own_shape (hf i hi)
    generalize hff : (fun j : Nat => cur[j]?.getD undef) = f at *
    generalize cur.size = N at *
    clear ho ht hf ha hh hcs htk hff R0
    go_enter Tryz.func32, Tryz.ntmps32
    go_wp2
    go_loopw [1, 5] (fun kv iv wr => ∃ i : Nat, i ≤ ns.length ∧ iv = .int .i64 i ∧ kv = .int .i64 (mkK k ns i) ∧ MkSt w wr g N k ns f fv i B) (fun _ iv _ => ns.length - (intOf iv).toNat)
    case atStart => exact ⟨0, Nat.zero_le _, rfl, by rw [mkK_zero], S0⟩
    case round =>
      clear S0
      obtain ⟨i, hi, rfl, rfl, S⟩ := hrel
      by_cases hil : i < ns.length
      · have q0 := S.row.cell (i := i * 3) (by omega)
        have q1 := S.row.cell (i := i * 3 + 1) (by omega)
        have fz0 := S.row.frozen (i * 3)
        have fz1 := S.row.frozen (i * 3 + 1)
        have R2 := mkF_next S.row
        have q2 : ((wr.setCell ⟨g, i * 3, none⟩ (.int .i64 (mkK k ns i))).setCell ⟨g, i * 3 + 1, none⟩ (.int .i64 (mkK k ns i + 1))).cell? ⟨g, i * 3 + 2, none⟩ = some (fv i) := by
          rw [R2.cell (by omega)]
          unfold mkF
          rw [if_neg (by omega), if_neg (by omega), FV.out i hil]
        have q1' : (wr.setCell ⟨g, i * 3, none⟩ (.int .i64 (mkK k ns i))).cell? ⟨g, i * 3 + 1, none⟩ = some (mkF k ns f i (i * 3 + 1)) := by
          rw [World.cell?_setCell_other _ _ _ _ (by simp)]
          exact q1
        have fz1' : (wr.setCell ⟨g, i * 3, none⟩ (.int .i64 (mkK k ns i))).frozen? ⟨g, i * 3 + 1, none⟩ = false := ((S.row.set (i * 3) (.int .i64 (mkK k ns i)))).frozen (i * 3 + 1)
        have G2 : Grew wr ((wr.setCell ⟨g, i * 3, none⟩ (.int .i64 (mkK k ns i))).setCell ⟨g, i * 3 + 1, none⟩ (.int .i64 (mkK k ns i + 1))) (fun b => b = g) := (Grew.set _ _ _ _).trans (Grew.set _ _ _ _)
        have O2 : ∀ j, i ≤ j → j < ns.length → ((wr.setCell ⟨g, i * 3, none⟩ (.int .i64 (mkK k ns i))).setCell ⟨g, i * 3 + 1, none⟩ (.int .i64 (mkK k ns i + 1))).ownsRow B 2 1 (fv j) (ns.getD j nd0).fl.length (icells (ns.getD j nd0).fl) := fun j h1 h2 => G2.own (S.left j h1 h2) (fun b e q => TG.out j h2 (by rw [e, q]))
        have D2 : ∀ j, j < i → IR ((wr.setCell ⟨g, i * 3, none⟩ (.int .i64 (mkK k ns i))).setCell ⟨g, i * 3 + 1, none⟩ (.int .i64 (mkK k ns i + 1))) (fv j) (imarks (mkK k ns j + 2) (ns.getD j nd0).fl.length) := fun j hj => G2.ir (S.done j hj) (fun b e q => by
          obtain ⟨ao, c, es⟩ := SH.out j (by omega)
          exact TG.out j (by omega) (by rw [← q]; exact inB_own' es e))
        have W2 := S.grew.trans (G2.mono fun b _ e => .inl e)
        generalize hw2 : (wr.setCell ⟨g, i * 3, none⟩ (.int .i64 (mkK k ns i))).setCell ⟨g, i * 3 + 1, none⟩ (.int .i64 (mkK k ns i + 1)) = w2 at q2 R2 O2 D2 W2 G2
        obtain ⟨b1, b2⟩ := mkK_bounds k ns i hi
        have KS := mkK_succ k ns i hil
        obtain ⟨b3, b4⟩ := mkK_bounds k ns (i + 1) hil
        obtain ⟨ao, c, es⟩ := SH.out i hil
        have MK := markInt64S_any (fv i) (ns.getD i nd0).fl.length (mkK k ns i + 2) w2 (OS_of_owns (O2 i (Nat.le_refl _) hil)) ⟨ao, c, es, by
          obtain ⟨_, _, e3, hcap, _⟩ := own_cell (O2 i (Nat.le_refl _) hil)
          rw [es] at e3
          simp only [Value.slice.injEq] at e3
          omega⟩ (by omega) (by omega)
        have FIN : Hid (∀ w3, w2.grownBy w3 (Disk.rowOf (fv i) (ns.getD i nd0).fl.length) → IR w3 (fv i) (imarks (mkK k ns i + 2) (ns.getD i nd0).fl.length) → MkSt w w3 g N k ns f fv (i + 1) B) := fun w3 g3 m3 => by
          have G3 : Grew w2 w3 (fun b => (fv i).ownBlock = some b) := (Grew.grown g3).mono fun b _ e => rowOf_own e
          refine ⟨G3.row R2 (TG.out i hil), fun j hj => ?_, fun j h1 h2 => G3.own (O2 j (by omega) h2) (fun b e q => HA.out j i h2 hil (by omega) b e q), W2.trans (G3.mono fun b _ e => .inr ⟨i, hil, e⟩)⟩
          by_cases e : j = i
          · subst e; exact m3
          · obtain ⟨ao', c', es'⟩ := SH.out j (by omega)
            exact G3.ir (D2 j (by omega)) (fun b k q => HA.out j i (by omega) hil e b (inB_own' es' k) q)
        have KE : Hid (∀ y, y = mkK k ns i + 2 + ((ns.getD i nd0).fl.length : Int) → y = mkK k ns (i + 1)) := fun y e => by rw [e, KS]
        clear S R2 G2 O2 D2 W2 b3 b4 KS q1 fz1 es
        generalize (ns.getD i nd0).fl.length = m at *
        generalize mkF k ns f i (i * 3) = z0 at *
        generalize mkF k ns f i (i * 3 + 1) = z1 at *
        generalize mkK k ns i = x at *
        have hii : (i : Int) < ns.length := by omega
        have e3 : x + 1 + 1 = x + 2 := by omega
        generalize fv i = fi at *
        go_wp2_with fail
        refine MK.mono ?_
        rintro e w3 ⟨rfl, g3, m3⟩
        have SF := FIN.out w3 g3 m3
        go_wp2
        exact ⟨⟨i + 1, by omega, by go_num, congrArg (Value.int .i64) (KE.out _ rfl), SF⟩, by simp [intOf]; omega⟩
      · obtain rfl : i = ns.length := by omega
        have G : Hid (NR wr (.slice (some ⟨g, 0, none⟩) ns.length cap) (nmk k ns) ∧ Grew w wr (fun b => Value.ownBlock (.slice (some ⟨g, 0, none⟩) ns.length cap) = some b ∨ ∃ j, j < ns.length ∧ (fv j).ownBlock = some b)) := by
          refine ⟨⟨_, cap, by rw [nmk_length], by rw [nmk_length]; exact hc, fun j hj => ?_⟩, S.grew.mono fun b _ e => e.imp (fun e => by rw [e]; rfl) id⟩
          rw [nmk_length] at hj
          rw [nmk_get k ns j hj]
          obtain ⟨ao, c, es⟩ := SH.out j hj
          refine ⟨g, 0, ao, (ns.getD j nd0).fl.length, c, rfl, ?_, ?_, ?_, by rw [← es]; exact S.done j hj⟩
          · rw [Nat.zero_add, S.row.cell (by omega)]
            unfold mkF
            rw [if_pos (by omega), show j * 3 / 3 = j from by omega]
          · rw [Nat.zero_add, S.row.cell (by omega)]
            unfold mkF
            rw [if_neg (by omega), if_pos (by omega), show (j * 3 + 1) / 3 = j from by omega]
          · rw [Nat.zero_add, S.row.cell (by omega)]
            unfold mkF
            rw [if_neg (by omega), if_neg (by omega), FV.out j hj, es]
        clear S
        go_wp2
        go_ret
        exact ⟨⟨rfl, G.out.1⟩, G.out.2⟩

theorem markGraph_big (B : Nat) (vr vn : Value) (fv : Nat → Value) (g : Gr) (k : Int) (w : World) (hr : w.ownsRow B 2 1 vr g.roots.length (icells g.roots)) (hn : NOwn B w vn g.nodes fv) (ha : ∀ i, i < g.nodes.length → ∀ b, vr.ownBlock = some b → (fv i).ownBlock ≠ some b)
    (h0 : 0 < k) (h1 : mkK (k + g.roots.length) g.nodes g.nodes.length ≤ 10000000000000) (h2 : g.nodes.length ≤ 10000000000000) :
    Calls Tryz.prog 13 #[.agg #[vr, vn, .int .i64 g.hash], .int .i64 k] w fun e w' => (e = .returned (.int .i64 (mkK (k + g.roots.length) g.nodes g.nodes.length)) ∧ IR w' vr (imarks k g.roots.length) ∧ NR w' vn (nmk (k + g.roots.length) g.nodes)) ∧ Grew w w' (fun b => vr.ownBlock = some b ∨ vn.ownBlock = some b ∨ ∃ j, j < g.nodes.length ∧ (fv j).ownBlock = some b) := by
  have bb := mkK_bounds (k + g.roots.length) g.nodes g.nodes.length (Nat.le_refl _)
  obtain ⟨ra, rc, hvr⟩ := own_shape hr
  have hcap : ∃ ao cap, vr = .slice ao g.roots.length cap ∧ g.roots.length ≤ cap := by
    obtain ⟨ao, cap, e, hc, _⟩ := own_cell hr
    exact ⟨ao, cap, e, hc⟩
  have hnv : ∃ na nc, vn = .slice na g.nodes.length nc := by
    obtain ⟨xs, ho, _⟩ := hn
    exact own_shape ho
  obtain ⟨na, nc, hnv⟩ := hnv
  have hb0 := bel_one w (.cells #[vr, vn, .int .i64 g.hash] 30)
  have R0 := graphC w vr vn g.hash 30
  have hr0 := own_later hr hb0
  have hn0 := (Grew.new hb0 (fun _ => False)).nown hn (fun _ q => q.elim)
  have E1 := markInt64S_any vr g.roots.length k _ (OS_of_owns hr0) hcap h0 (by omega)
  have vrl : ∀ b, vr.ownBlock = some b → B ≤ b ∧ b < w.heap.size := fun b e => hr.lt b e
  have NV : Hid (∀ w1, (w.alloc (.cells #[vr, vn, .int .i64 g.hash] 30)).grownBy w1 (Disk.rowOf vr g.roots.length) → NOwn B w1 vn g.nodes fv) := fun w1 g1 => by
    have G1 : Grew _ w1 (fun b => vr.ownBlock = some b) := (Grew.grown g1).mono fun b _ e => rowOf_own e
    obtain ⟨xs, ho, ht, hf, hp⟩ := hn0
    exact ⟨xs, G1.own ho (fun b e q => type_ne hr0 ho (by decide) q e), ht, fun i hi => G1.own (hf i hi) (fun b e q => ha i hi b q e), hp⟩
  have E2 := fun W q => markNodeS_big B vn g.nodes fv (k + g.roots.length) W q (by omega) h1 h2
  have TN : Hid (∀ b, vr.ownBlock = some b → vn.ownBlock ≠ some b) := fun b e => by
    obtain ⟨xs, ho, _⟩ := hn
    exact type_ne hr ho (by decide) e
  have HA : Hid (∀ i, i < g.nodes.length → ∀ b, vr.ownBlock = some b → (fv i).ownBlock ≠ some b) := ha
  have IB : Hid (∀ b, inB vr b → vr.ownBlock = some b) := fun b e => inB_own hr e
  generalize mkK (k + g.roots.length) g.nodes g.nodes.length = z at *
  clear hr hn hr0 hn0 ha hcap
  subst hvr hnv
  go_enter Tryz.func13, Tryz.ntmps13
  go_wp2_with fail
  refine E1.mono ?_
  rintro e w1 ⟨rfl, g1, m1⟩
  have G1 : Grew w w1 (fun b => Value.ownBlock (.slice ra g.roots.length rc) = some b) := (Grew.new hb0 _).trans ((Grew.grown g1).mono fun b _ e => rowOf_own e)
  have Q0 := (Grew.grown g1).row R0 (fun e => by have := (vrl _ (rowOf_own e)).2; omega)
  have a1 : w1.cell? ⟨w.heap.size, 1, none⟩ = some (.slice na g.nodes.length nc) := Q0.cell (i := 1) (by omega)
  have N1 := NV.out w1 g1
  go_wp2_with fail
  refine (E2 w1 N1).mono ?_
  rintro e w2 ⟨⟨rfl, n2⟩, g2⟩
  have FIN : Hid (IR w2 (.slice ra g.roots.length rc) (imarks k g.roots.length) ∧ Grew w w2 (fun b => Value.ownBlock (.slice ra g.roots.length rc) = some b ∨ Value.ownBlock (.slice na g.nodes.length nc) = some b ∨ ∃ j, j < g.nodes.length ∧ (fv j).ownBlock = some b)) := by
    refine ⟨g2.ir m1 (fun b e q => ?_), (G1.mono fun b _ e => .inl e).trans (g2.mono fun b _ e => .inr e)⟩
    have ev := IB.out b e
    rcases q with q | ⟨j, hj, q⟩
    · exact TN.out b ev q
    · exact HA.out j hj b ev q
  go_wp2
  go_ret
  exact ⟨⟨rfl, FIN.out.1, n2⟩, FIN.out.2⟩

end Go.Proofs.YtnppoeifhmkphaaGreatDoor

/- The walk of the law on Build. -/
namespace Go.Proofs.YtnppoeifhmkphaaGreatDoor
open Go.RowKit

theorem OS.keep' {w w' : World} {v : Value} {n B S : Nat} (h : Disk.OS w 2 1 v n) (hk : ∀ b, B ≤ b → b < S → w'.heap[b]? = w.heap[b]?) (hS : ∀ b, Disk.rowOf v n = some b → B ≤ b ∧ b < S) : Disk.OS w' 2 1 v n := by
  obtain ⟨ao, cap, rfl, h⟩ := h
  refine ⟨ao, cap, rfl, ?_⟩
  by_cases h0 : n = 0
  · exact .inl h0
  · obtain ⟨b, N, f, rfl, hN, hr⟩ := h.resolve_left h0
    have q := hS b (by unfold Disk.rowOf; rw [if_neg h0]; rfl)
    exact .inr ⟨b, N, f, rfl, hN, hr.of_block (hk b q.1 q.2)⟩
theorem IR.keepR {w w' : World} {v : Value} {l : List Int} {B S : Nat} (h : IR w v l) (hk : ∀ b, B ≤ b → b < S → w'.heap[b]? = w.heap[b]?) (hS : ∀ b, Disk.rowOf v l.length = some b → B ≤ b ∧ b < S) : IR w' v l := by
  refine h.keep fun ad n cp e hn => ?_
  subst e
  have el : n = l.length := by
    obtain ⟨ao, cap, e2, _⟩ := IRs h
    simp only [Value.slice.injEq] at e2
    exact e2.2.1
  have q := hS ad.block (by
    unfold Disk.rowOf
    rw [if_neg (by omega)]
    rfl)
  exact hk _ q.1 q.2
theorem HN.keep {B : Nat} {w w' : World} {v : Value} {h : Hp} (k : HN B w v h) (hk : ∀ b, B ≤ b → b < w.heap.size → w'.heap[b]? = w.heap[b]?) : HN B w' v h := by
  obtain ⟨v1, v2, v3, e, ⟨s1, s2, s3⟩, ⟨r1, r2, r3⟩, ⟨b1, b2, b3⟩, r⟩ := k.ex
  have row : ∀ {u : Value} {l : List Int}, IR w u l → Disk.OS w 2 1 u l.length → (∀ b, Disk.rowOf u l.length = some b → B ≤ b) → IR w' u l := fun {u} {l} a s c => by
    refine a.keep fun ad n cp e hn => ?_
    subst e
    have el : n = l.length := by
      obtain ⟨ao, cap, e2, _⟩ := IRs a
      simp only [Value.slice.injEq] at e2
      exact e2.2.1
    have q : Disk.rowOf (.slice (some ad) n cp) l.length = some ad.block := by
      unfold Disk.rowOf
      rw [if_neg (by omega)]
      rfl
    exact hk _ (c _ q) (s.row _ q)
  exact ⟨v1, v2, v3, e, ⟨OS.keep' s1 (S := w.heap.size) hk (fun b q => ⟨b1 b q, s1.row b q⟩), OS.keep' s2 (S := w.heap.size) hk (fun b q => ⟨b2 b q, s2.row b q⟩), OS.keep' s3 (S := w.heap.size) hk (fun b q => ⟨b3 b q, s3.row b q⟩)⟩, ⟨row r1 s1 b1, row r2 s2 b2, row r3 s3 b3⟩, ⟨b1, b2, b3⟩, r⟩


theorem bld_bounds (g : Gr) : (bldC g).words.length ≤ 1000000000 ∧ (bldC g).roots.length ≤ 1000000000 ∧ (bldC g).kept.length ≤ 1000000000 := by
  cases hk : gokC g
  · rw [bld_no hk]
    simp [zeroH]
  · rw [bld_yes hk]
    obtain ⟨_, p2, _, _, _, _, p7⟩ := (gok_of hk).1
    have lw : (laidW g.nodes).length = 3200 := laidW_length (by omega)
    refine ⟨?_, ?_, ?_⟩
    · show (laidW g.nodes).length ≤ _
      omega
    · show (g.roots.map (rnI g.nodes)).length ≤ _
      rw [List.length_map]
      omega
    · simp [laidH]

set_option maxRecDepth 100000 in
set_option maxHeartbeats 6400000 in
theorem lawBuild_any (v : Value) (a : Gr) (w : World) (hv : GR w v a) (ga : GArg a) (ht : GTb w) :
    Calls Tryz.prog 4 #[v] w fun e w' => e = .returned (.bool true) ∧ Below w.heap.size w w' := by
  obtain ⟨ra, rc, na, nc, rfl, _, _⟩ := hv.out
  have R0 := graphC w (.slice ra a.roots.length rc) (.slice na a.nodes.length nc) a.hash 25
  have bb := bel_one w (.cells #[.slice ra a.roots.length rc, .slice na a.nodes.length nc, .int .i64 a.hash] 25)
  generalize hW0 : w.alloc (.cells #[.slice ra a.roots.length rc, .slice na a.nodes.length nc, .int .i64 a.hash] 25) = W0 at *
  obtain ⟨p0, p1, p2⟩ := gr_cells R0
  have SA := szGraph_any _ a 1048576 W0 (hv.later bb) ga.r ga.n ga.f (by omega) (by omega)
  go_enter Tryz.func4, Tryz.ntmps4
  go_wp2_with fail
  refine SA.mono ?_
  rintro e w1 ⟨⟨y, rfl, hy⟩, hb1⟩
  clear p0 p1 p2
  have X1 := R0.of_block (hb1.block _ R0.lt)
  obtain ⟨p0, p1, p2⟩ := gr_cells X1
  by_cases hn : y < 0
  · go_wp2
    go_ret
    exact ⟨rfl, bel_after bb hb1⟩
  obtain ⟨⟨la0, la1, la2⟩, ly⟩ := hy.out (by omega)
  have hbw1 := bel_after bb hb1
  have TA := fun W (q : Below w.heap.size w W) => toGraph_any _ a W (hv.later q) (by omega) (by omega) (fun n hn => by have := la2 n hn; omega)
  have nsa : ns64 a.nodes := fun n hn => ⟨ga.b n hn, by have := la2 n hn; omega⟩
  have SP := fun v W hv => specBuild_c v a W hv (by omega) (by omega) nsa ga.rb
  have IM := fun v W hv (q : Below w.heap.size w W) => implBuild_c v a W hv (by omega) (by omega) nsa (ht.later q)
  have EA := fun v u W hv hu => eqGraph_any v u a W hv hu (by omega) (by omega) (fun n hn => by have := la2 n hn; omega)
  have gk := mkK_lim (k := 1 + a.roots.length) (m := 1048576) la2
  have gb := mkK_bounds (1 + a.roots.length) a.nodes a.nodes.length (Nat.le_refl _)
  have MG := fun B vr vn fv W hr hn ha => markGraph_big B vr vn fv a 1 W hr hn ha (by omega) (by omega) (by omega)
  have hz : ¬ mkK (1 + a.roots.length) a.nodes a.nodes.length < 0 := by omega
  obtain ⟨rb1, rb2, rb3⟩ := bld_bounds a
  generalize bldC a = r at *
  generalize gokC a = rb at *
  have ER := fun v u W hv hu => eqHeap_any v u r W hv hu (by omega) (by omega) (by omega)
  have MR := fun v1 v2 v3 W o1 o2 o3 i1 i2 i3 d1 d2 d3 => markHeap_any v1 v2 v3 r 1 W o1 o2 o3 i1 i2 i3 d1 d2 d3 (by omega) (by omega) (by omega) (by omega) (by omega)
  have HD := fun v1 v2 v3 W m1 m2 m3 => heldHeap_any v1 v2 v3 r 1 W m1 m2 m3 (by omega) (by omega) (by omega) (by omega) (by omega)
  have rz : ¬ (1 : Int) + r.words.length + r.roots.length + r.kept.length < 0 := by omega
  generalize hZ : mkK (1 + a.roots.length) a.nodes a.nodes.length = zz at *
  clear hZ gk gb
  generalize hZ : (1 : Int) + r.words.length + r.roots.length + r.kept.length = zr at *
  clear hZ
  have tz : (zr != zr) = false := by simp
  have tb : (rb != rb) = false := by simp
  clear SA hy ga la0 la1 la2 nsa ly rb1 rb2 rb3
  go_wp2_with fail
  with_reducible refine (TA w1 hbw1).mono ?_
  rintro e w2 ⟨⟨pv, rfl, hp⟩, hb2⟩
  have hbw2 := bel_after hbw1 hb2
  have X2 := X1.of_block (hb2.block _ X1.lt)
  clear p0 p1 p2
  go_wp2_with fail
  refine (SP _ _ hp.grn.gr).mono ?_
  rintro e w3 ⟨⟨sv, rfl, hsv⟩, hb3⟩
  obtain ⟨so1, sc1, so2, sc2, so3, sc3, rfl, -⟩ := hsv.out
  have hs3 := hsv.hr
  have alS := bel_one w3 (.cells #[.slice so1 r.words.length sc1, .slice so2 r.roots.length sc2, .int .i64 r.old, .int .i64 r.eden, .int .i64 r.surv, .bool r.flip, .int .i64 r.hash, .slice so3 r.kept.length sc3] 35)
  have Z3 := Bx.new w3 (.slice so1 r.words.length sc1) (.slice so2 r.roots.length sc2) (.slice so3 r.kept.length sc3) r 35
  have hb3' := bel_after hb3 alS
  have hbw3 := bel_after hbw2 hb3'
  have X3 := X2.of_block (hb3'.block _ X2.lt)
  have hsA := hs3.later alS
  have szA : (w3.alloc (.cells #[.slice so1 r.words.length sc1, .slice so2 r.roots.length sc2, .int .i64 r.old, .int .i64 r.eden, .int .i64 r.surv, .bool r.flip, .int .i64 r.hash, .slice so3 r.kept.length sc3] 35)).heap.size = w3.heap.size + 1 := by simp
  have lt3 : w.heap.size < w3.heap.size := by have := X2.lt; have := hb3.size; omega
  clear X1 X2 hp hsv SP
  obtain ⟨p0, p1, p2⟩ := gr_cells X3
  go_wp2_with fail
  with_reducible refine (TA _ hbw3).mono ?_
  rintro e w4 ⟨⟨x0v, rfl, hx0⟩, hb4⟩
  have hbw4 := bel_after hbw3 hb4
  have X4 := X3.of_block (hb4.block _ X3.lt)
  obtain ⟨xa, xc, xn, xm, fv, hxe, qo, qn, qap⟩ := hx0.out
  subst hxe
  rw [szA] at qo qn
  have ge4 : w3.heap.size + 1 ≤ w4.heap.size := by have := hb4.size; rw [szA] at this; exact this
  have SB : ∀ b, (Value.ownBlock (.slice xa a.roots.length xc) = some b ∨ Value.ownBlock (.slice xn a.nodes.length xm) = some b ∨ ∃ j, j < a.nodes.length ∧ (fv j).ownBlock = some b) → w3.heap.size + 1 ≤ b ∧ b < w4.heap.size := fun b e => by
    obtain ⟨xs, no, nt, nf, nap⟩ := id qn
    rcases e with e | e | ⟨j, hj, e⟩
    · exact qo.lt b e
    · exact no.lt b e
    · exact (nf j hj).lt b e
  have al := bel_one w4 (.cells #[.slice xa a.roots.length xc, .slice xn a.nodes.length xm, .int .i64 a.hash] 30)
  have Y5 := graphC w4 (.slice xa a.roots.length xc) (.slice xn a.nodes.length xm) a.hash 30
  have hq5 := hx0.later al
  have hbw5 := bel_after hbw4 al
  have X5 := X4.of_block (al.block _ X4.lt)
  have B34 := bel_after hb4 al
  have hs5 := hsA.later B34
  have Z5 := Z3.later B34
  clear X3 X4 hx0 p0 p1 p2 Z3 hsA
  obtain ⟨s0, s1, s2⟩ := gr_cells Y5
  go_wp2_with fail
  refine (IM _ _ hq5.grn.gr hbw5).mono ?_
  rintro e w5 ⟨⟨gv, rfl, hgo⟩, hb5⟩
  obtain ⟨go1, gc1, go2, gc2, go3, gc3, rfl, ⟨gs1, gs2, gs3⟩, ⟨gr1, gr2, gr3⟩, ⟨gB1, gB2, gB3⟩, gd1, gd2, gd3⟩ := hgo.out
  have s4a : (w4.alloc (.cells #[.slice xa a.roots.length xc, .slice xn a.nodes.length xm, .int .i64 a.hash] 30)).heap.size = w4.heap.size + 1 := by simp
  rw [s4a] at gB1 gB2 gB3
  have gh1 := gs1.row
  have gh2 := gs2.row
  have gh3 := gs3.row
  have alG := bel_one w5 (.cells #[.slice go1 r.words.length gc1, .slice go2 r.roots.length gc2, .int .i64 r.old, .int .i64 r.eden, .int .i64 r.surv, .bool r.flip, .int .i64 r.hash, .slice go3 r.kept.length gc3] 35)
  have U5 := Bx.new w5 (.slice go1 r.words.length gc1) (.slice go2 r.roots.length gc2) (.slice go3 r.kept.length gc3) r 35
  have hb5' := bel_after hb5 alG
  have ge5 : w4.heap.size + 1 ≤ w5.heap.size := by have := hb5.size; rw [s4a] at this; exact this
  have hbw6 := bel_after hbw5 hb5'
  have X6 := X5.of_block (hb5'.block _ X5.lt)
  have Y6 := Y5.of_block (hb5'.block _ Y5.lt)
  have Z6 := Z5.later hb5'
  have hq6 := hq5.later hb5'
  have hs6 := hs5.later hb5'
  have hg6 := hgo.later alG
  have ltz : w3.heap.size < w5.heap.size := by omega
  clear X5 Y5 Z5 hq5 hs5 s4a s0 s1 s2
  obtain ⟨z0, z1, z2, z3, z4, z5, z6, z7⟩ := id Z6
  go_wp2_with fail
  refine (ER _ _ _ hg6.hr hs6).mono ?_
  rintro e wA ⟨rfl, hbA⟩
  have hbwA := bel_after hbw6 hbA
  have XA := X6.of_block (hbA.block _ X6.lt)
  have YA := Y6.of_block (hbA.block _ Y6.lt)
  have ZA := Z6.later hbA
  have UA := U5.later hbA
  have hqA := hq6.later hbA
  have hsA := hs6.later hbA
  have hgA := hg6.later hbA
  have B4A : Below w4.heap.size w4 wA := bel_after al (bel_after hb5' hbA)
  have B3A : Below w3.heap.size w3 wA := bel_after alS (bel_after hb4 B4A)
  have B5A : Below w5.heap.size w5 wA := bel_after alG hbA
  clear X6 Y6 Z6 U5 hq6 hs6 hg6 z0 z1 z2 z3 z4 z5 z6 z7
  obtain ⟨p0, p1, p2⟩ := gr_cells XA
  obtain ⟨s0, s1, s2⟩ := gr_cells YA
  have m0 := World.block_lt_of_cell? _ _ s0
  have m1 := World.block_lt_of_cell? _ _ p0
  go_wp2_with fail
  go_region_held3 (fun w' => Below wA.heap.size wA w' ∧ (w'.cell? ⟨w.heap.size, 0, none⟩ = some (.slice ra a.roots.length rc) ∧ w'.cell? ⟨w.heap.size, 1, none⟩ = some (.slice na a.nodes.length nc) ∧ w'.cell? ⟨w.heap.size, 2, none⟩ = some (.int .i64 a.hash)) ∧ (w'.cell? ⟨w4.heap.size, 0, none⟩ = some (.slice xa a.roots.length xc) ∧ w'.cell? ⟨w4.heap.size, 1, none⟩ = some (.slice xn a.nodes.length xm) ∧ w'.cell? ⟨w4.heap.size, 2, none⟩ = some (.int .i64 a.hash)))
    (first | assumption | exact ⟨(Below.refl _ _).drew, ⟨p0, p1, p2⟩, s0, s1, s2⟩ | exact keepN (by assumption) (by assumption))
    (first
      | (go_at_call 7; with_reducible refine (TA _ (bel_after hbwA (And.left (by assumption)))).mono ?_; rintro x w7 ⟨⟨pc, rfl, hpc⟩, hb7⟩)
      | (go_at_call 9; refine (EA _ _ _ (hqA.later (And.left (by assumption))).grn.gr hpc.grn.gr).mono ?_; rintro x w8 ⟨rfl, hb8⟩))
  have hbR : Below wA.heap.size wA w8 := bel_after (bel_after (Below.refl _ _).drew hb7) hb8
  have hbw8 := bel_after hbwA hbR
  have X8 := XA.of_block (hbR.block _ XA.lt)
  have Y8 := YA.of_block (hbR.block _ YA.lt)
  have Z8 := ZA.later hbR
  have U8 := UA.later hbR
  have hg8 := hgA.later hbR
  have c4 := bel_after B4A hbR
  have c3 := bel_after B3A hbR
  have c5 := bel_after B5A hbR
  have M := MG _ _ _ fv w8 (own_later qo c4) ((Grew.new c4 (fun _ => False)).nown qn (fun _ q => q.elim)) qap
  clear p0 p1 p2 s0 s1 s2 m0 m1 XA YA ZA UA hqA hgA hsA qo qn qap
  obtain ⟨s0, s1, s2⟩ := gr_cells Y8
  have lt58 : w5.heap.size < w8.heap.size := World.block_lt_of_cell? _ _ U8.c0
  have lt48 : w4.heap.size < w8.heap.size := by omega
  go_wp2_with fail
  refine M.mono ?_
  rintro e w9 ⟨⟨rfl, -, -⟩, T⟩
  have hbT : Below (w3.heap.size + 1) w8 w9 := T.below (by omega) (fun b _ e => (SB b e).1)
  have X9 := T.row X8 (fun e => by have := SB _ e; omega)
  have Z9 := Z8.below hbT
  have hi : ∀ b, w4.heap.size ≤ b → b < w8.heap.size → w9.heap[b]? = w8.heap[b]? := fun b h1 h2 => T.block b h2 (fun e => by have := SB _ e; omega)
  have U9 := U8.keep (hi _ (by omega) lt58)
  have hg9 := hg8.keep (fun b hb hl => hi b (by simp at hb; omega) hl)
  have d3 : Below w3.heap.size w3 w9 := c3.trans (hbT.mono (by omega))
  have hs9 := hs3.later d3
  have hbw9 : Below w.heap.size w w9 := hbw8.trans (hbT.mono (by omega))
  have s89 := T.size
  have k5 : ∀ b, w4.heap.size ≤ b → b < w5.heap.size → w9.heap[b]? = w5.heap[b]? := fun b h1 h2 => (hi b h1 (by omega)).trans (c5.block b h2)
  clear s0 s1 s2 X8 Y8 Z8 U8 hg8 M T hi c3 c4 c5 SB
  obtain ⟨z0, z1, z2, z3, z4, z5, z6, z7⟩ := id Z9
  obtain ⟨u0, u1, u2, u3, u4, u5, u6, u7⟩ := id U9
  have ltz9 : w3.heap.size < w9.heap.size := by omega
  have ltu9 : w5.heap.size < w9.heap.size := by omega
  go_wp2_with fail
  refine (ER _ _ _ hg9.hr hs9).mono ?_
  rintro e wB ⟨rfl, hbB⟩
  have hbwB := bel_after hbw9 hbB
  have XB := X9.of_block (hbB.block _ X9.lt)
  have ZB := Z9.later hbB
  have UB := U9.later hbB
  have dB := bel_after d3 hbB
  have g1B := (OS.keep' gs1 k5 (fun b q => ⟨by have := gB1 b q; omega, gh1 b q⟩)).later hbB
  have g2B := (OS.keep' gs2 k5 (fun b q => ⟨by have := gB2 b q; omega, gh2 b q⟩)).later hbB
  have g3B := (OS.keep' gs3 k5 (fun b q => ⟨by have := gB3 b q; omega, gh3 b q⟩)).later hbB
  have e1B := (IR.keepR gr1 k5 (fun b q => ⟨by have := gB1 b q; omega, gh1 b q⟩)).later hbB
  have e2B := (IR.keepR gr2 k5 (fun b q => ⟨by have := gB2 b q; omega, gh2 b q⟩)).later hbB
  have e3B := (IR.keepR gr3 k5 (fun b q => ⟨by have := gB3 b q; omega, gh3 b q⟩)).later hbB
  have M2 := MR _ _ _ wB g1B g2B g3B e1B e2B e3B gd1 gd2 gd3
  have s9B := hbB.size
  clear X9 Z9 U9 hg9 hs9 z0 z1 z2 z3 z4 z5 z6 z7 u0 u1 u2 u3 u4 u5 u6 u7 gs1 gs2 gs3 gr1 gr2 gr3 k5 g1B g2B g3B e1B e2B e3B
  obtain ⟨u0, u1, u2, u3, u4, u5, u6, u7⟩ := id UB
  go_wp2_with fail
  refine M2.mono ?_
  rintro e wC ⟨rfl, T2, m1, m2, m3⟩
  have hbT2 : Below (w4.heap.size + 1) wB wC := T2.below (by omega) gB1 gB2 gB3
  have XC := XB.of_block (hbT2.block _ (by omega))
  have ZC := ZB.below (hbT2.mono (by omega))
  have UC := UB.keep (T2.high (B := w5.heap.size) gh1 gh2 gh3 _ (by omega) (by omega))
  have dC : Below w3.heap.size w3 wC := dB.trans (hbT2.mono (by omega))
  have hbwC : Below w.heap.size w wC := hbwB.trans (hbT2.mono (by omega))
  have sBC := T2.size
  clear XB ZB UB u0 u1 u2 u3 u4 u5 u6 u7 M2 T2
  obtain ⟨u0, u1, u2, u3, u4, u5, u6, u7⟩ := id UC
  have ltuC : w5.heap.size < wC.heap.size := by omega
  go_wp2_with fail
  refine (HD _ _ _ _ m1 m2 m3).mono ?_
  rintro e wD ⟨rfl, hbD⟩
  have hbwD := bel_after hbwC hbD
  have XD := XC.of_block (hbD.block _ XC.lt)
  have ZD := ZC.later hbD
  have UD := UC.later hbD
  have n1 := m1.later hbD
  have n2 := m2.later hbD
  have n3 := m3.later hbD
  have dD := bel_after dC hbD
  clear XC ZC UC m1 m2 m3 u0 u1 u2 u3 u4 u5 u6 u7
  obtain ⟨p0, p1, p2⟩ := gr_cells XD
  have sCD := hbD.size
  go_wp2_with fail
  with_reducible refine (TA _ hbwD).mono ?_
  rintro e wE ⟨⟨rv, rfl, hr⟩, hbE⟩
  go_wp2_with fail
  refine (IM _ _ hr.grn.gr (bel_after hbwD hbE)).mono ?_
  rintro e wF ⟨⟨kv, rfl, hk⟩, hbF⟩
  obtain ⟨ko1, kc1, ko2, kc2, ko3, kc3, rfl, -⟩ := hk.out
  have alK := bel_one wF (.cells #[.slice ko1 r.words.length kc1, .slice ko2 r.roots.length kc2, .int .i64 r.old, .int .i64 r.eden, .int .i64 r.surv, .bool r.flip, .int .i64 r.hash, .slice ko3 r.kept.length kc3] 35)
  have hbDF := bel_after hbE hbF
  have hbDK := bel_after hbDF alK
  have ZF := ZD.later hbDK
  have UF := UD.later hbDK
  have P1 := n1.later hbDK
  have P2 := n2.later hbDK
  have P3 := n3.later hbDK
  have hkK := hk.hr.later alK
  have hsK := hs3.later (bel_after dD hbDK)
  have hbwK := bel_after hbwD hbDK
  have sDF := hbDF.size
  clear XD ZD UD n1 n2 n3 p0 p1 p2 hr hk
  obtain ⟨z0, z1, z2, z3, z4, z5, z6, z7⟩ := id ZF
  have ltzF : w3.heap.size < wF.heap.size := by omega
  have ltuF : w5.heap.size < wF.heap.size := by omega
  go_wp2_with fail
  refine (ER _ _ _ hkK hsK).mono ?_
  rintro e wG ⟨rfl, hbG⟩
  have hbwG := bel_after hbwK hbG
  obtain ⟨u0, u1, u2, u3, u4, u5, u6, u7⟩ := id (UF.later hbG)
  clear z0 z1 z2 z3 z4 z5 z6 z7
  go_wp2_with fail
  refine (HD _ _ _ _ (P1.later hbG) (P2.later hbG) (P3.later hbG)).mono ?_
  rintro e wH ⟨rfl, hbH⟩
  go_wp2
  go_ret
  exact ⟨rfl, bel_after hbwG hbH⟩

end Go.Proofs.YtnppoeifhmkphaaGreatDoor
