
import Derived.Test.YtklafifiphbibaaGreatZV2
import Derived.Maps.AppendAt
import Derived.Deep.RegionHeld
import Derived.RangeFuncCalls
import Derived.OrdersIn
import Derived.TacticsIn
/- Appending numbers to a row of the call's own, and where the new row lies. -/
namespace Go.Proofs.YtklafifiphbibaaGreat
open Go.RowKit

theorem run_append_zero (ty : TypeId) (g cap n sc : Nat) (sp : Option Addr) (hle : n ≤ cap) (w : World) :
    (Builtin.append_ #[24, 24] ty #[.slice (some ⟨g, 0, none⟩) n cap, .slice sp 0 sc]).run Tryz.prog w = .ok (.slice (some ⟨g, 0, none⟩) n cap) w := by
  obtain ⟨i, hi, hzz⟩ := Option.map_eq_some_iff.1 Tryz.infoI
  have hu : Tryz.prog.underlying 24 = some (.slice 2) := Tryz.underlying24
  have hl : ∀ (x : Addr), (loadCells x 0).run Tryz.prog w = .ok #[] w := fun x => by simpa using run_loadCells_list (P := Tryz.prog) w x [] (by simp)
  cases sp <;> simp [Builtin.append_, run_underlying hu, Builtin.lenOf, Builtin.firstCells, sizeOf, typeInfo, hi, hle, hl, storeCells]

/-- append of whatever numbers to a row of the call's own. -/
theorem app_ri {ops : Array Oper} {rest : List Oper} {o : Oper} {a : Act} {Q : Exit → Act → World → Prop} (w : World) (hgd : o.guard = none) (s x : Operand)
    (ho : o.op = .call { callee := .builtin .append, args := #[s, x], argTypes := #[24, 24] })
    (g cap n : Nat) (m : List Int) (hs : a.eval s = .slice (some ⟨g, 0, none⟩) n cap) (hm : n = m.length) (hR : RI w g m cap) (hmm : m.length ≤ 1000000000000) (hcap : cap ≤ maxLen)
    (sp : Option Addr) (sc k : Nat) (l : List Int) (hx : a.eval x = .slice sp k sc) (hk : k = l.length) (hI : IR w (.slice sp k sc) l) (hl : l.length ≤ 1000000000000)
    (h : ∀ g' c' w', RI w' g' (m ++ l) c' → w.grownBy w' (some g) → (g' = g ∨ (g' = w.heap.size ∧ w.heap.size < w'.heap.size)) → c' ≤ maxLen → wpList Tryz.prog ops Q rest (a.put o.dst (.slice (some ⟨g', 0, none⟩) (n + k) c')) w') :
    wpList Tryz.prog ops Q (o :: rest) a w := by
  subst hm
  subst hk
  by_cases h0 : l.length = 0
  · obtain rfl : l = [] := List.eq_nil_of_length_eq_zero h0
    refine wpList_plain hgd fun K hK => ?_
    have hrun := run_append_zero o.type g cap m.length sc sp hR.le w
    unfold Oper.wp
    simp only [List.length_nil] at hx
    simp [execOp, ho, resolve, invoke, builtin, hs, hx, hrun, Result.andThen]
    exact hK _ _ (h g cap w (by rw [List.append_nil]; exact hR) ⟨rfl, rfl, rfl, Nat.le_refl _, fun _ _ _ => rfl⟩ (.inl rfl) hcap)
  · obtain ⟨i, hi, hzz⟩ := Option.map_eq_some_iff.1 Tryz.infoI
    simp only [Prod.mk.injEq] at hzz
    obtain ⟨hz, hsz, hby⟩ := hzz
    obtain ⟨ao, cp, e1, _, hc⟩ := hI
    simp only [Value.slice.injEq, true_and] at e1
    obtain ⟨rfl, rfl⟩ := e1
    obtain ⟨b, q, rfl, _⟩ := hc 0 (by omega)
    have hle := hR.le
    have hlt := hR.lt
    refine wpList_append_own_at w hgd s x 24 ho 0 2 i _ 1 8 Tryz.underlying24 hi hz hsz hby rfl (by omega) _ m.length (icells m) hs (hR.owns (Nat.zero_le _) hcap) ⟨b, q, none⟩ l.length sc (icells l) hx (by simp [icells]) (fun j u hj => ?_) (fun u hu => ?_) (by unfold maxLen; omega) (by omega) (Nat.zero_le _) (fun v' w' h1 h2 h3 h4 => ?_)
    · have hj' : j < l.length := by
        rcases Nat.lt_or_ge j l.length with k | k
        · exact k
        · rw [List.getElem?_eq_none (by rw [icells_length]; exact k)] at hj; cases hj
      obtain ⟨b', q', e2, hcell⟩ := hc j hj'
      simp only [Option.some.injEq, Addr.mk.injEq, and_true] at e2
      obtain ⟨rfl, rfl⟩ := e2
      have hu : u = .int .i64 (l.getD j 0) := by
        simp [icells, hj'] at hj
        rw [← hj]
        simp [hj']
      rw [hu, ← hcell]
      unfold Addr.add
      split
      · subst j; rfl
      · simp
    · obtain ⟨z, _, rfl⟩ := List.mem_map.1 hu
      rfl
    · have e3 : icells m ++ icells l = icells (m ++ l) := by simp [icells]
      have e4 : m.length + l.length = (m ++ l).length := by simp
      rw [e3, e4] at h1
      obtain ⟨g', c', rfl⟩ : ∃ g' c', v' = .slice (some ⟨g', 0, none⟩) (m ++ l).length c' := by
        rcases h1.2 with ⟨_, e⟩ | ⟨g', c', cur, e, _⟩
        · rw [← e4] at e; omega
        · exact ⟨g', c', e⟩
      have hn := (RI.of_owns h1).1
      have hw := h g' c' w' hn h2 (by
        rcases h4 with e | e
        · left; simpa [Value.ownBlock] using e
        · right
          have e' : g' = w.heap.size := by simpa [Value.ownBlock] using e
          exact ⟨e', by have := hn.lt; omega⟩) (RI.of_owns h1).2.2
      rw [e4] at hw
      exact hw

theorem empty_ri (w : World) : RI (w.alloc (.cells #[] 2)) w.heap.size [] 0 := by
  refine ⟨fun _ => undef, ?_, Nat.le_refl _, fun i hi => absurd hi (Nat.not_lt_zero i)⟩
  have q := World.rowIs_alloc w #[] 2 (fun _ => undef) (fun i hi => absurd hi (Nat.not_lt_zero i))
  exact q

end Go.Proofs.YtklafifiphbibaaGreat

/- A heap is copied by the model: what is known on the way. -/
namespace Go.Proofs.YtklafifiphbibaaGreat
open Go.RowKit

theorem empty_at {w : World} {n : Nat} (h : w.heap.size = n) : RI (w.alloc (.cells #[] 2)) n [] 0 := by
  subst h
  exact empty_ri w
theorem Disk.cell_set {w : World} {b t n i : Nat} {f : Nat → Value} (h : w.rowIs b t n f) (hi : i < n) (u : Value) : (w.setCell ⟨b, i, none⟩ u).cell? ⟨b, i, none⟩ = some u := by
  rw [(h.set i u).cell hi, if_pos rfl]

/-- The box of a heap and the box of a result, one behind the other, at the end of what was there. -/
structure CS (w W : World) (u0 u1 u2 u3 u4 u5 u6 u7 : Value) : Prop where
  bel : Below w.heap.size w W
  lt : w.heap.size + 1 < W.heap.size
  c0 : W.cell? ⟨w.heap.size, 0, none⟩ = some u0
  c1 : W.cell? ⟨w.heap.size, 1, none⟩ = some u1
  c2 : W.cell? ⟨w.heap.size, 2, none⟩ = some u2
  c3 : W.cell? ⟨w.heap.size, 3, none⟩ = some u3
  c4 : W.cell? ⟨w.heap.size, 4, none⟩ = some u4
  c5 : W.cell? ⟨w.heap.size, 5, none⟩ = some u5
  c6 : W.cell? ⟨w.heap.size, 6, none⟩ = some u6
  c7 : W.cell? ⟨w.heap.size, 7, none⟩ = some u7
  box : ∃ f, W.rowIs w.heap.size 26 8 f
  res : ∃ f, W.rowIs (w.heap.size + 1) 26 8 f
theorem CS.set0 {w W : World} {u0 u1 u2 u3 u4 u5 u6 u7 : Value} (h : CS w W u0 u1 u2 u3 u4 u5 u6 u7) (u : Value) : CS w (W.setCell ⟨w.heap.size, 0, none⟩ u) u u1 u2 u3 u4 u5 u6 u7 := by
  obtain ⟨f, F⟩ := h.box
  obtain ⟨g, G⟩ := h.res
  have e : ∀ o v, o ≠ 0 → W.cell? ⟨w.heap.size, o, none⟩ = some v → (W.setCell ⟨w.heap.size, 0, none⟩ u).cell? ⟨w.heap.size, o, none⟩ = some v := fun o v ho q => by
    rw [World.cell?_setCell_other]
    · exact q
    · intro k
      simp at k <;> omega
  exact ⟨h.bel.setCell (p := ⟨w.heap.size, 0, none⟩) (Nat.le_refl _) _, by have := h.lt; simpa using this, Disk.cell_set F (by omega) u, e _ _ (by omega) h.c1, e _ _ (by omega) h.c2, e _ _ (by omega) h.c3, e _ _ (by omega) h.c4, e _ _ (by omega) h.c5, e _ _ (by omega) h.c6, e _ _ (by omega) h.c7, ⟨_, F.set 0 u⟩, ⟨_, G.setOther (a := ⟨w.heap.size, 0, none⟩) (Nat.succ_ne_self _) u⟩⟩
theorem CS.set1 {w W : World} {u0 u1 u2 u3 u4 u5 u6 u7 : Value} (h : CS w W u0 u1 u2 u3 u4 u5 u6 u7) (u : Value) : CS w (W.setCell ⟨w.heap.size, 1, none⟩ u) u0 u u2 u3 u4 u5 u6 u7 := by
  obtain ⟨f, F⟩ := h.box
  obtain ⟨g, G⟩ := h.res
  have e : ∀ o v, o ≠ 1 → W.cell? ⟨w.heap.size, o, none⟩ = some v → (W.setCell ⟨w.heap.size, 1, none⟩ u).cell? ⟨w.heap.size, o, none⟩ = some v := fun o v ho q => by
    rw [World.cell?_setCell_other]
    · exact q
    · intro k
      simp at k <;> omega
  exact ⟨h.bel.setCell (p := ⟨w.heap.size, 1, none⟩) (Nat.le_refl _) _, by have := h.lt; simpa using this, e _ _ (by omega) h.c0, Disk.cell_set F (by omega) u, e _ _ (by omega) h.c2, e _ _ (by omega) h.c3, e _ _ (by omega) h.c4, e _ _ (by omega) h.c5, e _ _ (by omega) h.c6, e _ _ (by omega) h.c7, ⟨_, F.set 1 u⟩, ⟨_, G.setOther (a := ⟨w.heap.size, 1, none⟩) (Nat.succ_ne_self _) u⟩⟩
theorem CS.set7 {w W : World} {u0 u1 u2 u3 u4 u5 u6 u7 : Value} (h : CS w W u0 u1 u2 u3 u4 u5 u6 u7) (u : Value) : CS w (W.setCell ⟨w.heap.size, 7, none⟩ u) u0 u1 u2 u3 u4 u5 u6 u := by
  obtain ⟨f, F⟩ := h.box
  obtain ⟨g, G⟩ := h.res
  have e : ∀ o v, o ≠ 7 → W.cell? ⟨w.heap.size, o, none⟩ = some v → (W.setCell ⟨w.heap.size, 7, none⟩ u).cell? ⟨w.heap.size, o, none⟩ = some v := fun o v ho q => by
    rw [World.cell?_setCell_other]
    · exact q
    · intro k
      simp at k <;> omega
  exact ⟨h.bel.setCell (p := ⟨w.heap.size, 7, none⟩) (Nat.le_refl _) _, by have := h.lt; simpa using this, e _ _ (by omega) h.c0, e _ _ (by omega) h.c1, e _ _ (by omega) h.c2, e _ _ (by omega) h.c3, e _ _ (by omega) h.c4, e _ _ (by omega) h.c5, e _ _ (by omega) h.c6, Disk.cell_set F (by omega) u, ⟨_, F.set 7 u⟩, ⟨_, G.setOther (a := ⟨w.heap.size, 7, none⟩) (Nat.succ_ne_self _) u⟩⟩
theorem CS.later {w W W' : World} {u0 u1 u2 u3 u4 u5 u6 u7 : Value} (h : CS w W u0 u1 u2 u3 u4 u5 u6 u7) (hb : Below W.heap.size W W') : CS w W' u0 u1 u2 u3 u4 u5 u6 u7 := by
  obtain ⟨f, F⟩ := h.box
  obtain ⟨g, G⟩ := h.res
  exact ⟨h.bel.trans (hb.mono h.bel.size), by have := h.lt; have := hb.size; omega, cell_later hb h.c0, cell_later hb h.c1, cell_later hb h.c2, cell_later hb h.c3, cell_later hb h.c4, cell_later hb h.c5, cell_later hb h.c6, cell_later hb h.c7, ⟨_, F.of_block (hb.block _ F.lt)⟩, ⟨_, G.of_block (hb.block _ G.lt)⟩⟩
theorem CS.grown {w W W' : World} {g : Nat} {u0 u1 u2 u3 u4 u5 u6 u7 : Value} (h : CS w W u0 u1 u2 u3 u4 u5 u6 u7) (hg : W.grownBy W' (some g)) (hr : w.heap.size + 1 < g) : CS w W' u0 u1 u2 u3 u4 u5 u6 u7 := by
  obtain ⟨f, F⟩ := h.box
  obtain ⟨k, G⟩ := h.res
  have n1 : some w.heap.size ≠ some g := fun e => by cases e; omega
  have n2 : some (w.heap.size + 1) ≠ some g := fun e => by injection e; omega
  exact ⟨Below.grown h.bel hg h.bel.size (fun k hk => by cases hk; omega), by have := h.lt; have := hg.size; omega, hg.cell h.c0 n1, hg.cell h.c1 n1, hg.cell h.c2 n1, hg.cell h.c3 n1, hg.cell h.c4 n1, hg.cell h.c5 n1, hg.cell h.c6 n1, hg.cell h.c7 n1, ⟨_, F.of_block (hg.block _ F.lt n1)⟩, ⟨_, G.of_block (hg.block _ G.lt n2)⟩⟩
theorem CS.new (w : World) (u0 u1 u2 u3 u4 u5 u6 u7 : Value) : CS w ((w.alloc (.cells #[u0, u1, u2, u3, u4, u5, u6, u7] 26)).alloc (.cells #[.slice none 0 0, .slice none 0 0, .int .i64 0, .int .i64 0, .int .i64 0, .bool false, .int .i64 0, .slice none 0 0] 26)) u0 u1 u2 u3 u4 u5 u6 u7 := by
  have q := row_any w #[u0, u1, u2, u3, u4, u5, u6, u7] 26
  have q' := row_any (w.alloc (.cells #[u0, u1, u2, u3, u4, u5, u6, u7] 26)) #[.slice none 0 0, .slice none 0 0, .int .i64 0, .int .i64 0, .int .i64 0, .bool false, .int .i64 0, .slice none 0 0] 26
  rw [World.size_alloc] at q'
  have b := bel_one (w.alloc (.cells #[u0, u1, u2, u3, u4, u5, u6, u7] 26)) (.cells #[.slice none 0 0, .slice none 0 0, .int .i64 0, .int .i64 0, .int .i64 0, .bool false, .int .i64 0, .slice none 0 0] 26)
  exact ⟨bel_after (bel_one _ _) b, by simp, cell_later b (cell_new w _ _ _ rfl 0 _ rfl), cell_later b (cell_new w _ _ _ rfl 1 _ rfl), cell_later b (cell_new w _ _ _ rfl 2 _ rfl), cell_later b (cell_new w _ _ _ rfl 3 _ rfl), cell_later b (cell_new w _ _ _ rfl 4 _ rfl), cell_later b (cell_new w _ _ _ rfl 5 _ rfl), cell_later b (cell_new w _ _ _ rfl 6 _ rfl), cell_later b (cell_new w _ _ _ rfl 7 _ rfl), ⟨_, q.of_block (b.block _ q.lt)⟩, ⟨_, q'⟩⟩

set_option maxRecDepth 100000 in
set_option maxHeartbeats 3200000 in
theorem l5Copy_any (v : Value) (h : Hp) (w : World) (hv : HR w v h) (hwo : h.words.length ≤ 1000000000000) (hro : h.roots.length ≤ 1000000000000) (hke : h.kept.length ≤ 1000000000000) :
    Calls Tryz.prog 30 #[v] w fun x w' => (∃ g1 d1 g2 d2 g3 d3, x = .returned (.agg #[.slice (some ⟨g1, 0, none⟩) h.words.length d1, .slice (some ⟨g2, 0, none⟩) h.roots.length d2, .int .i64 h.old, .int .i64 h.eden, .int .i64 h.surv, .bool h.flip, .int .i64 h.hash, .slice (some ⟨g3, 0, none⟩) h.kept.length d3]) ∧ (RI w' g1 h.words d1 ∧ RI w' g2 h.roots d2 ∧ RI w' g3 h.kept d3) ∧ (w.heap.size ≤ g1 ∧ g1 < g2 ∧ g2 < g3) ∧ (d1 ≤ maxLen ∧ d2 ≤ maxLen ∧ d3 ≤ maxLen)) ∧ Below w.heap.size w w' := by
  obtain ⟨v1, v2, v3, rfl, i1, i2, i3⟩ := id hv
  obtain ⟨a1, c1, rfl, -⟩ := IRs i1
  obtain ⟨a2, c2, rfl, -⟩ := IRs i2
  obtain ⟨a3, c3, rfl, -⟩ := IRs i3
  have S0 := (CS.new w (.slice a1 h.words.length c1) (.slice a2 h.roots.length c2) (.int .i64 h.old) (.int .i64 h.eden) (.int .i64 h.surv) (.bool h.flip) (.int .i64 h.hash) (.slice a3 h.kept.length c3)).later (bel_one _ (.cells #[] 2))
  have E1 : RI (((w.alloc (.cells #[.slice a1 h.words.length c1, .slice a2 h.roots.length c2, .int .i64 h.old, .int .i64 h.eden, .int .i64 h.surv, .bool h.flip, .int .i64 h.hash, .slice a3 h.kept.length c3] 26)).alloc (.cells #[.slice none 0 0, .slice none 0 0, .int .i64 0, .int .i64 0, .int .i64 0, .bool false, .int .i64 0, .slice none 0 0] 26)).alloc (.cells #[] 2)) (w.heap.size + 1 + 1) [] 0 := empty_at (by simp)
  have I1 := i1.later S0.bel
  have s0 : (((w.alloc (.cells #[.slice a1 h.words.length c1, .slice a2 h.roots.length c2, .int .i64 h.old, .int .i64 h.eden, .int .i64 h.surv, .bool h.flip, .int .i64 h.hash, .slice a3 h.kept.length c3] 26)).alloc (.cells #[.slice none 0 0, .slice none 0 0, .int .i64 0, .int .i64 0, .int .i64 0, .bool false, .int .i64 0, .slice none 0 0] 26)).alloc (.cells #[] 2)).heap.size = w.heap.size + 1 + 1 + 1 := by simp
  clear hv
  go_enter Tryz.func30, Tryz.ntmps30
  go_wp2_with (first
    | (at_builtin; refine app_ri _ rfl _ _ rfl (w.heap.size + 1 + 1) 0 0 [] rfl rfl E1 (Nat.zero_le _) (Nat.zero_le _) a1 c1 h.words.length h.words rfl rfl I1 hwo ?_; intro g1 d1 w1 P1 G1 wh1 mx1; rw [List.nil_append] at P1; rw [s0] at wh1; have lg1 := P1.lt; have sz1 := G1.size; rw [s0] at sz1; have ng1 : w.heap.size + 1 < g1 := (by rcases wh1 with e | e <;> omega); have S1 := S0.grown G1 (by omega); have S1' := (S1.set0 (.slice (some ⟨g1, 0, none⟩) h.words.length d1)).later (bel_one _ (.cells #[] 2)); have E2 : RI ((w1.setCell ⟨w.heap.size, 0, none⟩ (.slice (some ⟨g1, 0, none⟩) h.words.length d1)).alloc (.cells #[] 2)) w1.heap.size [] 0 := empty_at (by simp); have I2 := i2.later S1'.bel; have s1 : ((w1.setCell ⟨w.heap.size, 0, none⟩ (.slice (some ⟨g1, 0, none⟩) h.words.length d1)).alloc (.cells #[] 2)).heap.size = w1.heap.size + 1 := (by simp); have P1a := (P1.setOther (b := w.heap.size) (i := 0) (by omega) (.slice (some ⟨g1, 0, none⟩) h.words.length d1)).later (bel_one _ (.cells #[] 2)); clear P1 G1 wh1 I1 E1 S0; obtain ⟨f1, F1⟩ := S1.box; have fz1 := fun i => F1.frozen i; have x0 := S1.c0; have x1 := S1.c1; have lw1 : w.heap.size < w1.heap.size := (by omega); clear F1 S1)
    | (at_builtin; refine app_ri _ rfl _ _ rfl w1.heap.size 0 0 [] rfl rfl E2 (Nat.zero_le _) (Nat.zero_le _) a2 c2 h.roots.length h.roots rfl rfl I2 hro ?_; intro g2 d2 w2 P2 G2 wh2 mx2; rw [List.nil_append] at P2; rw [s1] at wh2; have lg2 := P2.lt; have sz2 := G2.size; rw [s1] at sz2; have ng2 : w1.heap.size ≤ g2 := (by rcases wh2 with e | e <;> omega); have S2 := S1'.grown G2 (by omega); have S2' := (S2.set1 (.slice (some ⟨g2, 0, none⟩) h.roots.length d2)).later (bel_one _ (.cells #[] 2)); have E3 : RI ((w2.setCell ⟨w.heap.size, 1, none⟩ (.slice (some ⟨g2, 0, none⟩) h.roots.length d2)).alloc (.cells #[] 2)) w2.heap.size [] 0 := empty_at (by simp); have I3 := i3.later S2'.bel; have s2 : ((w2.setCell ⟨w.heap.size, 1, none⟩ (.slice (some ⟨g2, 0, none⟩) h.roots.length d2)).alloc (.cells #[] 2)).heap.size = w2.heap.size + 1 := (by simp); have P1b := ((P1a.grown G2 (by simp <;> omega)).setOther (b := w.heap.size) (i := 1) (by omega) (.slice (some ⟨g2, 0, none⟩) h.roots.length d2)).later (bel_one _ (.cells #[] 2)); have P2a := (P2.setOther (b := w.heap.size) (i := 1) (by omega) (.slice (some ⟨g2, 0, none⟩) h.roots.length d2)).later (bel_one _ (.cells #[] 2)); clear P1a P2 G2 wh2 I2 E2 S1' x0 x1 fz1; obtain ⟨f2, F2⟩ := S2.box; have fz2 := fun i => F2.frozen i; have x1 := S2.c1; have x7 := S2.c7; have lw2 : w.heap.size < w2.heap.size := (by omega); clear F2 S2)
    | (at_builtin; refine app_ri _ rfl _ _ rfl w2.heap.size 0 0 [] rfl rfl E3 (Nat.zero_le _) (Nat.zero_le _) a3 c3 h.kept.length h.kept rfl rfl I3 hke ?_; intro g3 d3 w3 P3 G3 wh3 mx3; rw [List.nil_append] at P3; rw [s2] at wh3; have lg3 := P3.lt; have sz3 := G3.size; rw [s2] at sz3; have ng3 : w2.heap.size ≤ g3 := (by rcases wh3 with e | e <;> omega); have S3 := S2'.grown G3 (by omega); have P1c := P1b.grown G3 (by simp <;> omega); have P2b := P2a.grown G3 (by simp <;> omega); clear P1b P2a G3 wh3 I3 E3 S2' x1 x7 fz2; obtain ⟨f3, F3⟩ := S3.box; have fz3 := fun i => F3.frozen i; obtain ⟨k3, K3⟩ := S3.res; have fr3 := fun i => K3.frozen i; have r0 := K3.cell (i := 0) (by omega); have o0 := S3.c0; have r1 := K3.cell (i := 1) (by omega); have o1 := S3.c1; have r2 := K3.cell (i := 2) (by omega); have o2 := S3.c2; have r3 := K3.cell (i := 3) (by omega); have o3 := S3.c3; have r4 := K3.cell (i := 4) (by omega); have o4 := S3.c4; have r5 := K3.cell (i := 5) (by omega); have o5 := S3.c5; have r6 := K3.cell (i := 6) (by omega); have o6 := S3.c6; have r7 := K3.cell (i := 7) (by omega); have o7 := S3.c7; have lw3 : w.heap.size < w3.heap.size := (by omega); have lw3' : w.heap.size + 1 < w3.heap.size := (by omega); have bG3 := S3.bel; clear F3 K3 S3))
  have T1 : RI (((((((((w3.setCell ⟨w.heap.size, 7, none⟩ (.slice (some ⟨g3, 0, none⟩) h.kept.length d3)).setCell ⟨w.heap.size + 1, 0, none⟩ (.slice (some ⟨g1, 0, none⟩) h.words.length d1)).setCell ⟨w.heap.size + 1, 1, none⟩ (.slice (some ⟨g2, 0, none⟩) h.roots.length d2)).setCell ⟨w.heap.size + 1, 2, none⟩ (.int .i64 h.old)).setCell ⟨w.heap.size + 1, 3, none⟩ (.int .i64 h.eden)).setCell ⟨w.heap.size + 1, 4, none⟩ (.int .i64 h.surv)).setCell ⟨w.heap.size + 1, 5, none⟩ (.bool h.flip)).setCell ⟨w.heap.size + 1, 6, none⟩ (.int .i64 h.hash)).setCell ⟨w.heap.size + 1, 7, none⟩ (.slice (some ⟨g3, 0, none⟩) h.kept.length d3)) g1 h.words d1 := (RI.setOther (RI.setOther (RI.setOther (RI.setOther (RI.setOther (RI.setOther (RI.setOther (RI.setOther (P1c.setOther (b := w.heap.size) (i := 7) (by omega) (.slice (some ⟨g3, 0, none⟩) h.kept.length d3)) (by omega) _) (by omega) _) (by omega) _) (by omega) _) (by omega) _) (by omega) _) (by omega) _) (by omega) _)
  have T2 : RI (((((((((w3.setCell ⟨w.heap.size, 7, none⟩ (.slice (some ⟨g3, 0, none⟩) h.kept.length d3)).setCell ⟨w.heap.size + 1, 0, none⟩ (.slice (some ⟨g1, 0, none⟩) h.words.length d1)).setCell ⟨w.heap.size + 1, 1, none⟩ (.slice (some ⟨g2, 0, none⟩) h.roots.length d2)).setCell ⟨w.heap.size + 1, 2, none⟩ (.int .i64 h.old)).setCell ⟨w.heap.size + 1, 3, none⟩ (.int .i64 h.eden)).setCell ⟨w.heap.size + 1, 4, none⟩ (.int .i64 h.surv)).setCell ⟨w.heap.size + 1, 5, none⟩ (.bool h.flip)).setCell ⟨w.heap.size + 1, 6, none⟩ (.int .i64 h.hash)).setCell ⟨w.heap.size + 1, 7, none⟩ (.slice (some ⟨g3, 0, none⟩) h.kept.length d3)) g2 h.roots d2 := (RI.setOther (RI.setOther (RI.setOther (RI.setOther (RI.setOther (RI.setOther (RI.setOther (RI.setOther (P2b.setOther (b := w.heap.size) (i := 7) (by omega) (.slice (some ⟨g3, 0, none⟩) h.kept.length d3)) (by omega) _) (by omega) _) (by omega) _) (by omega) _) (by omega) _) (by omega) _) (by omega) _) (by omega) _)
  have T3 : RI (((((((((w3.setCell ⟨w.heap.size, 7, none⟩ (.slice (some ⟨g3, 0, none⟩) h.kept.length d3)).setCell ⟨w.heap.size + 1, 0, none⟩ (.slice (some ⟨g1, 0, none⟩) h.words.length d1)).setCell ⟨w.heap.size + 1, 1, none⟩ (.slice (some ⟨g2, 0, none⟩) h.roots.length d2)).setCell ⟨w.heap.size + 1, 2, none⟩ (.int .i64 h.old)).setCell ⟨w.heap.size + 1, 3, none⟩ (.int .i64 h.eden)).setCell ⟨w.heap.size + 1, 4, none⟩ (.int .i64 h.surv)).setCell ⟨w.heap.size + 1, 5, none⟩ (.bool h.flip)).setCell ⟨w.heap.size + 1, 6, none⟩ (.int .i64 h.hash)).setCell ⟨w.heap.size + 1, 7, none⟩ (.slice (some ⟨g3, 0, none⟩) h.kept.length d3)) g3 h.kept d3 := (RI.setOther (RI.setOther (RI.setOther (RI.setOther (RI.setOther (RI.setOther (RI.setOther (RI.setOther (P3.setOther (b := w.heap.size) (i := 7) (by omega) (.slice (some ⟨g3, 0, none⟩) h.kept.length d3)) (by omega) _) (by omega) _) (by omega) _) (by omega) _) (by omega) _) (by omega) _) (by omega) _) (by omega) _)
  have B9 : Below w.heap.size w (((((((((w3.setCell ⟨w.heap.size, 7, none⟩ (.slice (some ⟨g3, 0, none⟩) h.kept.length d3)).setCell ⟨w.heap.size + 1, 0, none⟩ (.slice (some ⟨g1, 0, none⟩) h.words.length d1)).setCell ⟨w.heap.size + 1, 1, none⟩ (.slice (some ⟨g2, 0, none⟩) h.roots.length d2)).setCell ⟨w.heap.size + 1, 2, none⟩ (.int .i64 h.old)).setCell ⟨w.heap.size + 1, 3, none⟩ (.int .i64 h.eden)).setCell ⟨w.heap.size + 1, 4, none⟩ (.int .i64 h.surv)).setCell ⟨w.heap.size + 1, 5, none⟩ (.bool h.flip)).setCell ⟨w.heap.size + 1, 6, none⟩ (.int .i64 h.hash)).setCell ⟨w.heap.size + 1, 7, none⟩ (.slice (some ⟨g3, 0, none⟩) h.kept.length d3)) := by
    repeat (refine Below.setCell ?_ (p := ⟨w.heap.size + 1, _, none⟩) (Nat.le_succ _) _)
    exact bG3.setCell (p := ⟨w.heap.size, 7, none⟩) (Nat.le_refl _) _
  exact bodyPost_ret (v := .agg #[.slice (some ⟨g1, 0, none⟩) h.words.length d1, .slice (some ⟨g2, 0, none⟩) h.roots.length d2, .int .i64 h.old, .int .i64 h.eden, .int .i64 h.surv, .bool h.flip, .int .i64 h.hash, .slice (some ⟨g3, 0, none⟩) h.kept.length d3]) (by simp [results, Tryz.results30, go_sem, r0, r1, r2, r3, r4, r5, r6, r7]) rfl ⟨⟨g1, d1, g2, d2, g3, d3, rfl, ⟨T1, T2, T3⟩, ⟨by omega, by omega, by omega⟩, mx1, mx2, mx3⟩, B9⟩

end Go.Proofs.YtklafifiphbibaaGreat

/- A drawing region in a round of a range over a function, by the laws of a region outside of one: where no operation defers. -/
namespace Go.Proofs.YtklafifiphbibaaGreat.Disk
open Go

/-- The post of a region that comes to its end. -/
def Ends (R : Act → World → Prop) : Exit → Act → World → Prop
  | .normal, a, w => R a w
  | _, _, _ => False
theorem ends_panic {R : Act → World → Prop} {dst : Option Tmp} {v : Value} : ∀ (c : List PanicEntry) (a : Act) (w : World), Ends R (.panic c) (a.put dst v) w → Ends R (.panic c) a w := fun _ _ _ h => h
theorem wpOp_of {P : Program} {ops : Array Oper} {Q : Exit → Act → World → Prop} {i : Nat} {oi : Oper} {K : Act → World → Prop} {a : Act} {w : World} (hi : ops[i]? = some oi) (hw : Region.wanted oi (yielded ops a.tmps) = true) (h : oi.wp P a w K Q) : wpOp P ops Q i K a w := by
  unfold wpOp
  simp only [hi]
  rw [if_pos hw]
  exact .inl h

end Go.Proofs.YtklafifiphbibaaGreat.Disk

/- Regions that draw their order and end with a store (x = append(x, ..)): a condition on the world that holds till the last operation, which waits for all that is taken first. -/
namespace Go.Proofs.YtklafifiphbibaaGreat.Disk
open Go

section
variable {P : Program} {md : Region.Mode} {ops : Array Oper} {Q : Exit → Act → World → Prop} {R : Act → World → Prop} {S : World → Prop} {z : Nat}

/-- Whatever order is picked; S holds behind every operation but number z. -/
def wpAnyZ (P : Program) (md : Region.Mode) (ops : Array Oper) (Q : Exit → Act → World → Prop) (z : Nat) (S : World → Prop) : Nat → Array Bool → Act → World → Prop
  | 0, listed, a, w => Region.ready md ops listed = [] ∧ Q .normal a w
  | fuel + 1, listed, a, w =>
    (Region.ready md ops listed = [] → Q .normal a w) ∧
    ∀ i ∈ Region.ready md ops listed, wpOp P ops Q i (fun a' w' => (i = z ∨ S w') ∧ wpAnyZ P md ops Q z S fuel (listed.setIfInBounds i true) a' w') a w

theorem wpAny_of_Z : ∀ (fuel : Nat) (listed : Array Bool) (a : Act) (w : World), wpAnyZ P md ops Q z S fuel listed a w → wpAny P md ops Q fuel listed a w
  | 0, _, _, _, h => h
  | fuel + 1, _, _, _, h => ⟨h.1, fun i hi => wpOp_mono (fun a' w' h' => wpAny_of_Z fuel _ a' w' h'.2) (h.2 i hi)⟩

/-- Number z waits for number i, or there is no number z. -/
def waitsB (md : Region.Mode) (ops : Array Oper) (z i : Nat) : Bool := match ops[z]? with | none => true | some oz => oz.after.toList.any fun e => Region.binds md e && e.on == i

theorem not_z {listed : Array Bool} {i j : Nat} (hz : waitsB md ops z i = true) (hi : listed.getD i true = false) (hj : j ∈ Region.ready md ops listed) : j ≠ z := by
  rintro rfl
  obtain ⟨_, o, ho, hall⟩ := mem_ready.1 hj
  unfold waitsB at hz
  rw [ho] at hz
  obtain ⟨e, he, hb⟩ := List.any_eq_true.1 hz
  simp only [Bool.and_eq_true, beq_iff_eq] at hb
  have h1 := hall e (by simpa using he) hb.1
  rw [hb.2] at h1
  rcases Nat.lt_or_ge i listed.size with h' | h'
  · simp [h'] at hi h1; rw [hi] at h1; cases h1
  · simp [Array.getElem?_eq_none h'] at h1

theorem wpAnyZ_first {i : Nat} {oi : Oper} {v : Value} (hi : ops[i]? = some oi) (hz : waitsB md ops z i = true) (hsel : ∀ (j : Nat) (o : Oper) cs b, ops[j]? = some o → o.op ≠ .select cs b)
    (hQ : ∀ c a w, Q (.panic c) (a.put oi.dst v) w → Q (.panic c) a w) :
    ∀ (fuel : Nat) (listed : Array Bool) (a : Act) (w : World),
      (∀ j oj, ops[j]? = some oj → j ≠ i → listed.getD j true = false → (∀ e ∈ oj.after, Region.binds md e = true → e.on ≠ i) → oi.apart ops oj = true) →
      i ∈ Region.ready md ops listed → YieldsIf P ops S oi v a → S w →
      wpAnyZ P md ops Q z S fuel (listed.setIfInBounds i true) (a.put oi.dst v) w → wpAnyZ P md ops Q z S (fuel + 1) listed a w := by
  intro fuel
  induction fuel with
  | zero =>
    intro listed a w _ hr hy hS H
    refine ⟨fun h => (by rw [h] at hr; cases hr), fun j hj => ?_⟩
    by_cases hji : j = i
    · subst hji; exact hy.wpOp hi hS ⟨.inr hS, H⟩
    · have h1 := ready_mono hj hji
      rw [H.1] at h1
      cases h1
  | succ fuel ih =>
    intro listed a w hfree hr hy hS H
    refine ⟨fun h => (by rw [h] at hr; cases hr), fun j hj => ?_⟩
    by_cases hji : j = i
    · subst hji; exact hy.wpOp hi hS ⟨.inr hS, H⟩
    · have h1 := H.2 j (ready_mono hj hji)
      have hun : listed.getD i true = false := (mem_ready.1 hr).1
      have hjz : j ≠ z := not_z hz hun hj
      obtain ⟨hjun, oj, hoj, hall⟩ := mem_ready.1 hj
      have hnot : ∀ e ∈ oj.after, Region.binds md e = true → e.on ≠ i := fun e he hb heq => by
        have h2 := hall e he hb
        rw [heq] at h2
        rcases Nat.lt_or_ge i listed.size with h' | h'
        · simp [h'] at hun h2; rw [hun] at h2; cases h2
        · simp [Array.getElem?_eq_none h'] at h2
      have h2 := wpOp_putIf hoj (hfree j oj hoj hji hjun hnot) (fun cs b => hsel i oi cs b hi) (fun cs b => hsel j oj cs b hoj) hQ hy h1
      refine wpOp_mono (fun a' w' h3 => ?_) h2
      have hS' : S w' := h3.2.1.resolve_left hjz
      refine ⟨.inr hS', ih (listed.setIfInBounds j true) a' w' (fun k ok hk hki hu hno => ?_) (ready_mono hr (Ne.symm hji)) h3.1 hS' ?_⟩
      · refine hfree k ok hk hki ?_ hno
        by_cases hjk : j = k
        · subst hjk; exact hjun
        · rw [getD_set_ne true hjk] at hu; exact hu
      · rw [Array.setIfInBounds_comm _ _ hji]
        exact h3.2.2

theorem z_done {listed : Array Bool} {a : Act} {w : World} (hr : Region.ready md ops listed = []) (h : R a w) : ∀ fuel, wpAnyZ P md ops (Ends R) z S fuel listed a w
  | 0 => ⟨hr, h⟩
  | _ + 1 => ⟨fun _ => h, by rw [hr]; simp⟩

/-- An operation that yields is taken first. -/
theorem z_take (i d : Nat) {oi : Oper} {v : Value} {fuel : Nat} {listed : Array Bool} {T : Array Value} {D : List Deferred} {w : World} (hi : ops[i]? = some oi) (hd : oi.dst = some d)
    (hz : waitsB md ops z i = true) (hs : Region.noSelect ops = true) (hf : Region.free md ops listed i = true) (hr : (Region.ready md ops listed).contains i = true)
    (hw : Region.wanted oi (yielded ops T) = true) (hS : S w) (hy : ∀ w, S w → (execOp (Act.eval ⟨T, D⟩) oi).run P w = .ok (.value v) w)
    (h : wpAnyZ P md ops (Ends R) z S fuel (listed.setIfInBounds i true) ⟨T.setIfInBounds d v, D⟩ w) : wpAnyZ P md ops (Ends R) z S (fuel + 1) listed ⟨T, D⟩ w :=
  wpAnyZ_first hi hz (Region.noSelect_spec hs) ends_panic fuel listed _ w (Region.free_spec hi hf) (by simpa using hr) (Or.inl ⟨hw, hy⟩) hS (by rw [hd]; exact h)

theorem z_all {i fuel : Nat} {listed : Array Bool} {a : Act} {w : World} (hr : Region.ready md ops listed = [i])
    (h : wpOp P ops Q i (fun a' w' => (i = z ∨ S w') ∧ wpAnyZ P md ops Q z S fuel (listed.setIfInBounds i true) a' w') a w) : wpAnyZ P md ops Q z S (fuel + 1) listed a w := by
  refine ⟨fun h0 => (by rw [hr] at h0; cases h0), fun j hj => ?_⟩
  rw [hr] at hj
  obtain rfl : j = i := by simpa using hj
  exact h

/-- The one operation that may come up yields a value. -/
theorem z_run (i d : Nat) {oi : Oper} {v : Value} {fuel : Nat} {listed : Array Bool} {T : Array Value} {D : List Deferred} {w w' : World} (hi : ops[i]? = some oi) (hd : oi.dst = some d)
    (hr : Region.ready md ops listed = [i]) (hw : Region.wanted oi (yielded ops T) = true) (hy : (execOp (Act.eval ⟨T, D⟩) oi).run P w = .ok (.value v) w') (hS : i = z ∨ S w')
    (h : wpAnyZ P md ops (Ends R) z S fuel (listed.setIfInBounds i true) ⟨T.setIfInBounds d v, D⟩ w') : wpAnyZ P md ops (Ends R) z S (fuel + 1) listed ⟨T, D⟩ w :=
  z_all hr (by
    refine wpOp_of hi hw ?_
    unfold Oper.wp
    rw [hy]
    refine ⟨hS, ?_⟩
    rw [hd]
    exact h)

/-- The one operation that may come up writes, and leaves no value. -/
theorem z_skip (i : Nat) {oi : Oper} {fuel : Nat} {listed : Array Bool} {a : Act} {w w' : World} (hi : ops[i]? = some oi) (hd : oi.dst = none)
    (hr : Region.ready md ops listed = [i]) (hw : Region.wanted oi (yielded ops a.tmps) = true) (hy : (execOp a.eval oi).run P w = .ok .skip w') (hS : i = z ∨ S w')
    (h : wpAnyZ P md ops (Ends R) z S fuel (listed.setIfInBounds i true) a w') : wpAnyZ P md ops (Ends R) z S (fuel + 1) listed a w :=
  z_all hr (by
    refine wpOp_of hi hw ?_
    unfold Oper.wp
    rw [hy]
    refine ⟨hS, ?_⟩
    rw [hd]
    exact h)

/-- The one operation that may come up calls. -/
theorem z_call (i d : Nat) {oi : Oper} {f : FuncId} {args : Array Value} {fuel : Nat} {listed : Array Bool} {T : Array Value} {D : List Deferred} {w w0 : World} (hi : ops[i]? = some oi) (hd : oi.dst = some d)
    (hr : Region.ready md ops listed = [i]) (hw : Region.wanted oi (yielded ops T) = true) (hy : (execOp (Act.eval ⟨T, D⟩) oi).run P w = .ok (.enter f args) w0)
    (h : Calls P f args w0 fun e w' => ∃ v, e = .returned v ∧ (i = z ∨ S w') ∧ wpAnyZ P md ops (Ends R) z S fuel (listed.setIfInBounds i true) ⟨T.setIfInBounds d v, D⟩ w') : wpAnyZ P md ops (Ends R) z S (fuel + 1) listed ⟨T, D⟩ w :=
  z_all hr (by
    refine wpOp_of hi hw ?_
    unfold Oper.wp
    rw [hy]
    refine h.mono ?_
    rintro e w' ⟨v, rfl, hS, h⟩
    refine ⟨hS, ?_⟩
    rw [hd]
    exact h)

theorem z_plain {id : Nat} {a : Act} {w : World} (z : Nat) (S : World → Prop) (hm : P.follows .mixedOrders = true) (hS : S w.drew)
    (h : S w.drew → wpAnyZ P .any ops (Ends (Q .normal)) z S ops.size (Array.replicate ops.size false) a w.drew) : (Code.region id ops true).wp P Q a w :=
  Code.wp_mono (fun e a w q => by cases e <;> first | exact q | exact (q : False).elim) (wp_region_any hm (wpAny_of_Z _ _ _ _ (h hS)))

end
end Go.Proofs.YtklafifiphbibaaGreat.Disk

/- An operation whose guard does not hold, in a region that draws its order. -/
namespace Go.Proofs.YtklafifiphbibaaGreat.Disk
open Go

theorem z_pass {P : Program} {md : Region.Mode} {ops : Array Oper} {R : Act → World → Prop} {S : World → Prop} {z : Nat} (i d : Nat) {oi : Oper} {fuel : Nat} {listed : Array Bool} {T : Array Value} {D : List Deferred} {w : World} (hi : ops[i]? = some oi) (hd : oi.dst = some d)
    (hz : waitsB md ops z i = true) (hs : Region.noSelect ops = true) (hf : Region.free md ops listed i = true) (hr : (Region.ready md ops listed).contains i = true)
    (hw : Region.wanted oi (yielded ops T) = false) (hS : S w)
    (h : wpAnyZ P md ops (Ends R) z S fuel (listed.setIfInBounds i true) ⟨T.setIfInBounds d undef, D⟩ w) : wpAnyZ P md ops (Ends R) z S (fuel + 1) listed ⟨T, D⟩ w :=
  wpAnyZ_first hi hz (Region.noSelect_spec hs) ends_panic fuel listed _ w (Region.free_spec hi hf) (by simpa using hr) (Or.inr ⟨hw, rfl⟩) hS (by rw [hd]; exact h)

end Go.Proofs.YtklafifiphbibaaGreat.Disk
