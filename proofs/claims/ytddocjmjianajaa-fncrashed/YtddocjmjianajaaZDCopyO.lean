/- A disk copied into memory of its own whose late writes may be appended to: l1Copy once more. -/
import Derived.Test.YtddocjmjianajaaZDCopy2
namespace Go.Proofs.Ytddocjmjianajaa.Disk
open Go.RowKit Go.Deep

attribute [local go_sem ↓] Go.wp_at_zero Go.wp_at_succ

/-- Late writes in a row of their own from block B on, with what room there is. -/
def NO (B : Nat) (w : World) (v : Value) (ws : List Wr) : Prop := (∃ ao, v = .slice ao 0 0 ∧ ws = []) ∨ w.ownsRow B 42 2 v ws.length (lcells ws)
theorem NO.later {B : Nat} {w w' : World} {v : Value} {ws : List Wr} (h : NO B w v ws) (hb : Below w.heap.size w w') : NO B w' v ws :=
  h.imp id (fun h => h.kept (grown_below (row := none) hb) (by cases hv : v.ownBlock <;> simp))
theorem NO.al {B : Nat} {w : World} {v : Value} {ws : List Wr} (h : NO B w v ws) (o : Obj) : NO B (w.alloc o) v ws := h.later (bel_one w o)
theorem NO.dr {B : Nat} {w : World} {v : Value} {ws : List Wr} (h : NO B w v ws) : NO B w.drew v ws := h
theorem NO.mono {B B' : Nat} {w : World} {v : Value} {ws : List Wr} (h : NO B w v ws) (hb : B' ≤ B) : NO B' w v ws := by
  rcases h with h | ⟨hl, h | ⟨g, cap, cur, e, hB, r⟩⟩
  · exact .inl h
  · exact .inr ⟨hl, .inl h⟩
  · exact .inr ⟨hl, .inr ⟨g, cap, cur, e, Nat.le_trans hb hB, r⟩⟩
theorem NO.store {B : Nat} {w : World} {v : Value} {ws : List Wr} (h : NO B w v ws) {b o : Nat} (u : Value) (hb : b < B) : NO B (w.setCell ⟨b, o, none⟩ u) v ws :=
  h.imp id (fun h => h.kept (grown_set w b o u) (by
    cases hv : v.ownBlock with
    | none => exact .inl rfl
    | some k =>
      refine .inr (fun e => ?_)
      have := (h.lt k hv).1
      cases e
      omega))
theorem NO.s1 {B : Nat} {w : World} {v : Value} {ws : List Wr} (h : NO B w v ws) : ∃ ao n cap, v = .slice ao n cap := by
  rcases h with ⟨ao, rfl, _⟩ | ⟨_, ⟨rfl, _⟩ | ⟨g, cap, cur, rfl, _⟩⟩
  · exact ⟨_, _, _, rfl⟩
  · exact ⟨_, _, _, rfl⟩
  · exact ⟨_, _, _, rfl⟩
theorem owned_row2 {w : World} {B e size n : Nat} {b cap : Nat} {xs : List Value} (g : Nat → Value) (h : w.ownsRow B e size (.slice (some ⟨b, 0, none⟩) n cap) n xs) (hg : ∀ i, i < xs.length → xs[i]? = some (g i)) :
    ∃ (N : Nat) (f : Nat → Value), w.rowIs b e N (fun i => if i < n * size then g i else f i) ∧ n * size ≤ N ∧ B ≤ b := by
  obtain ⟨hl, h⟩ := h
  rcases h with ⟨h, _⟩ | ⟨b', cap', cur, hv, hB, hh, hnc, _, hsz, htk⟩
  · simp at h
  · simp only [Value.slice.injEq, Option.some.injEq, Addr.mk.injEq, and_true] at hv
    obtain ⟨rfl, _, rfl⟩ := hv
    have hle : n * size ≤ cur.size := by rw [hsz]; exact Nat.mul_le_mul_right _ hnc
    refine ⟨cur.size, fun i => cur[i]?.getD undef, ⟨cur, hh, rfl, fun i hi => ?_⟩, hle, hB⟩
    show cur[i]? = some (if i < n * size then g i else cur[i]?.getD undef)
    by_cases hin : i < n * size
    · rw [if_pos hin]
      have hx := hg i (by omega)
      rw [← htk, List.getElem?_take_of_lt hin] at hx
      simpa using hx
    · rw [if_neg hin]
      simp [hi]
theorem NO.nw {B : Nat} {w : World} {v : Value} {ws : List Wr} (h : NO B w v ws) : NW B w v ws := by
  have emp : ∀ ao c, NW B w (.slice ao 0 c) [] := fun ao c => ⟨⟨_, _, rfl, .inl rfl⟩, ⟨_, _, rfl, fun i hi => by simp at hi⟩, fun b e => by simp [rowOf] at e⟩
  rcases h with ⟨ao, rfl, rfl⟩ | h
  · exact emp _ _
  · have h' := h
    obtain ⟨hl, ⟨rfl, hn⟩ | ⟨g, cap, cur, rfl, _⟩⟩ := h'
    · obtain rfl := List.length_eq_zero_iff.1 hn
      exact emp _ _
    · obtain ⟨N, f, hr, hN, hB⟩ := owned_row2 (lcell ws) h (fun i hi => by rw [lcells_length] at hi; exact lcells_get ws i hi)
      exact nw_row hr hN hB

theorem run_copyO (w : World) (g : Nat) (v : Value) (ws : List Wr) (ty : TypeId) (hv : WR w v ws) (hl : ws.length ≤ 1000000000000) :
    ∃ v' w', (Builtin.append_ #[25, 25] ty #[.slice (some ⟨g, 0, none⟩) 0 0, v]).run Try.prog w = .ok v' w' ∧ NO w.heap.size w' v' ws ∧ Below w.heap.size w w' := by
  obtain ⟨i, hi, hzz⟩ := Option.map_eq_some_iff.1 Try.info53
  simp only [Prod.mk.injEq] at hzz
  obtain ⟨hz, hs, hb⟩ := hzz
  have hsrc := srcW hv
  by_cases h0 : ws.length = 0
  · obtain rfl := List.length_eq_zero_iff.1 h0
    have hr := run_append_room_src (P := Try.prog) w 25 25 ty 42 i Try.under28 hi g 0 0 0 v 0 [] (by rw [hs]; exact hsrc) (by omega) (fun j hj => by simp at hj) (fun j hj => by simp at hj)
    exact ⟨_, _, hr, .inl ⟨_, rfl, rfl⟩, Below.refl _ _⟩
  · have hr := run_append_grow_src (P := Try.prog) w 25 25 ty 42 i _ Try.under28 hi hz (some ⟨g, 0, none⟩) 0 0 [] (by simp [Builtin.firstCells]; exact run_loadCells_list (P := Try.prog) w.drew ⟨g, 0, none⟩ [] (fun j v hj => by simp at hj)) v ws.length (lcells ws) (by rw [hs]; exact hsrc) (by omega) (by omega) (growslice_fits (by omega) (by rw [hb]; omega))
    rw [Nat.zero_add, List.nil_append] at hr
    have hge := grownCap_ge w ws.length 0 42
    refine ⟨_, _, hr, .inr ⟨lcells_length ws, .inr ⟨w.heap.size, _, _, rfl, Nat.le_refl _, heap_alloc_new w.drew _, hge, grownCap_le_maxLen w ws.length 0 42 (by unfold maxLen; omega), ?_, ?_⟩⟩, (Below.refl _ w).drew.alloc (Nat.le_refl _) _⟩
    · rw [Array.size_append, size_zeroCells, List.size_toArray, lcells_length]
      simp [Value.cells]
      omega
    · rw [Array.toList_append, ← lcells_length ws]
      exact List.take_left

theorem step_copyO {ops : Array Oper} {o : Oper} {a : Act} {w : World} {K : Act → World → Prop} {Q : Exit → Act → World → Prop} {E : Prop} (hgd : o.guard = none) (s x : Operand)
    (ho : o.op = .call { callee := .builtin .append, args := #[s, x], argTypes := #[25, 25] }) (g : Nat) (hs : a.eval s = .slice (some ⟨g, 0, none⟩) 0 0) (v : Value) (ws : List Wr) (hx : a.eval x = v) (hv : WR w v ws) (hl : ws.length ≤ 1000000000000)
    (h : ∀ ao n cap w', NO w.heap.size w' (.slice ao n cap) ws → Below w.heap.size w w' → K (a.put o.dst (.slice ao n cap)) w') :
    if Region.wanted o (yielded ops a.tmps) = true then Oper.wp Try.prog o a w K Q else E := by
  have hw : Region.wanted o (yielded ops a.tmps) = true := by simp [Region.wanted, hgd]
  rw [if_pos hw]
  obtain ⟨v', w', hrun, hN, hb⟩ := run_copyO w g v ws o.type hv hl
  obtain ⟨ao, n, cap, rfl⟩ := hN.s1
  unfold Oper.wp
  simp [execOp, ho, resolve, invoke, builtin, hs, hx, hrun, Result.andThen]
  exact h _ _ _ _ hN hb

/-- One write more. -/
theorem lcells_snoc (ws : List Wr) (x : Wr) : lcells (ws ++ [x]) = lcells ws ++ [.int .i64 x.1, .string x.2] := by simp [lcells]

/-- The row that an append may write into: none where there is no room at all. -/
def rowO : Value → Option Nat
  | .slice (some a) _ cap => if cap = 0 then none else some a.block
  | _ => none
theorem NO.two {B : Nat} {w : World} {v : Value} {ws : List Wr} (h : NO B w v ws) : (∃ ao, v = .slice ao 0 0 ∧ ws = []) ∨ (w.ownsRow B 42 2 v ws.length (lcells ws) ∧ rowO v = v.ownBlock) := by
  rcases h with h | h
  · exact .inl h
  · have h' := h
    obtain ⟨hl, ⟨rfl, hn⟩ | ⟨g, cap, cur, rfl, hB, hh, hnc, _⟩⟩ := h'
    · exact .inl ⟨none, rfl, List.length_eq_zero_iff.1 hn⟩
    · by_cases hc : cap = 0
      · have h0 : ws.length = 0 := by omega
        obtain rfl := List.length_eq_zero_iff.1 h0
        subst hc
        exact .inl ⟨_, rfl, rfl⟩
      · exact .inr ⟨h, by simp [rowO, hc, Value.ownBlock]⟩
theorem NO.row {B : Nat} {w : World} {v : Value} {ws : List Wr} (h : NO B w v ws) : ∀ k, rowO v = some k → B ≤ k ∧ k < w.heap.size := by
  intro k hk
  rcases h.two with ⟨ao, rfl, _⟩ | ⟨h, e⟩
  · cases ao <;> simp [rowO] at hk
  · exact h.lt k (by rw [← e]; exact hk)

theorem run_one (w : World) (B xb : Nat) (v : Value) (ws : List Wr) (x : Wr) (ty : TypeId) (hv : NO B w v ws) (hx0 : w.cell? ⟨xb, 0, none⟩ = some (.int .i64 x.1)) (hx1 : w.cell? ⟨xb, 1, none⟩ = some (.string x.2)) (hl : ws.length ≤ 1000000000000) (hB : B ≤ w.heap.size) :
    ∃ ao n cap w', (Builtin.append_ #[25, 25] ty #[v, .slice (some ⟨xb, 0, none⟩) 1 1]).run Try.prog w = .ok (.slice ao n cap) w' ∧ NO B w' (.slice ao n cap) (ws ++ [x]) ∧ w.grownBy w' (rowO v) := by
  obtain ⟨i, hi, hzz⟩ := Option.map_eq_some_iff.1 Try.info53
  simp only [Prod.mk.injEq] at hzz
  obtain ⟨hz, hs, hb⟩ := hzz
  have hnews : ∀ (j : Nat) (u : Value), [Value.int .i64 x.1, .string x.2][j]? = some u → w.cell? ((⟨xb, 0, none⟩ : Addr).add j) = some u := by
    intro j u hu
    rw [Addr.add_lit, Nat.zero_add]
    match j, hu with
    | 0, hu => simp at hu; rw [← hu]; exact hx0
    | 1, hu => simp at hu; rw [← hu]; exact hx1
    | j + 2, hu => simp at hu
  have hone : ∀ u ∈ [Value.int .i64 x.1, .string x.2], u.oneCell' = true := by
    intro u hu
    simp at hu
    rcases hu with rfl | rfl <;> rfl
  have key : ∀ v', w.ownsRow B 42 2 v' ws.length (lcells ws) → rowO v' = v'.ownBlock → v' = v → ∃ ao n cap w', (Builtin.append_ #[25, 25] ty #[v, .slice (some ⟨xb, 0, none⟩) 1 1]).run Try.prog w = .ok (.slice ao n cap) w' ∧ NO B w' (.slice ao n cap) (ws ++ [x]) ∧ w.grownBy w' (rowO v) := by
    rintro v' h e rfl
    obtain ⟨u, w', hr, ho, hg, _⟩ := run_append_own (P := Try.prog) w B 25 ty 42 i _ 2 24 Try.under28 hi hz hs hb rfl (by omega) v' ws.length (lcells ws) h ⟨xb, 0, none⟩ 1 1 _ rfl hnews hone (by unfold maxLen; omega) (by omega) hB
    rw [← lcells_snoc] at ho
    have hN : NO B w' u (ws ++ [x]) := .inr (by rw [List.length_append]; exact ho)
    obtain ⟨ao, n, cap, rfl⟩ := hN.s1
    exact ⟨ao, n, cap, w', hr, hN, by rw [e]; exact hg⟩
  rcases hv.two with ⟨ao, rfl, rfl⟩ | ⟨h, e⟩
  · have hsrc := Src.ofSlice (P := Try.prog) (size := 2) (tx := 25) w Try.under28 ⟨xb, 0, none⟩ 1 1 [Value.int .i64 x.1, .string x.2] rfl hnews hone
    have hold : (Builtin.firstCells i.size 0 (.slice ao 0 0)).run Try.prog w.drew = .ok ([] : List Value).toArray w.drew := by
      cases ao with
      | none => simp [Builtin.firstCells]
      | some a => simp [Builtin.firstCells]; exact run_loadCells_list (P := Try.prog) w.drew a [] (fun j v hj => by simp at hj)
    have hr := run_append_grow_src (P := Try.prog) w 25 25 ty 42 i _ Try.under28 hi hz ao 0 0 [] hold (.slice (some ⟨xb, 0, none⟩) 1 1) 1 [Value.int .i64 x.1, .string x.2] (by rw [hs]; exact hsrc) (by omega) (by omega) (growslice_fits (by omega) (by rw [hb]; omega))
    rw [Nat.zero_add, List.nil_append] at hr
    have hge := grownCap_ge w 1 0 42
    refine ⟨_, _, _, _, hr, .inr ⟨lcells_length _, .inr ⟨w.heap.size, _, _, rfl, hB, heap_alloc_new w.drew _, hge, grownCap_le_maxLen w 1 0 42 (by unfold maxLen; omega), ?_, ?_⟩⟩, ⟨rfl, rfl, rfl, by simp, fun k hk _ => (bel_one w.drew _).block k hk⟩⟩
    · rw [Array.size_append, size_zeroCells, List.size_toArray]
      simp [Value.cells]
      omega
    · rw [Array.toList_append]
      show List.take (List.length [Value.int .i64 x.1, .string x.2]) ([Value.int .i64 x.1, .string x.2] ++ _) = [Value.int .i64 x.1, .string x.2]
      exact List.take_left
  · exact key v h e rfl

theorem step_copyWO {ops : Array Oper} {o : Oper} {a : Act} {w : World} {K : Act → World → Prop} {Q : Exit → Act → World → Prop} {E : Prop} (t : TypeId) (hgd : o.guard = none) (s x : Operand)
    (ho : o.op = .call { callee := .builtin .append, args := #[s, x], argTypes := #[t, t] }) (g : Nat) (hs : a.eval s = .slice (some ⟨g, 0, none⟩) 0 0) (v : Value) (ss : List ByteArray) (ws : List Wr) (hx : a.eval x = v)
    (hl1 : ss.length ≤ 1000000000000) (hl2 : ws.length ≤ 1000000000000)
    (h : (t = 24 ∧ SR w v ss ∧ ∀ ao n cap w', NS w.heap.size w' (.slice ao n cap) ss → Below w.heap.size w w' → CapS (.slice ao n cap) → K (a.put o.dst (.slice ao n cap)) w') ∨
      (t = 25 ∧ WR w v ws ∧ ∀ ao n cap w', NO w.heap.size w' (.slice ao n cap) ws → Below w.heap.size w w' → K (a.put o.dst (.slice ao n cap)) w')) :
    if Region.wanted o (yielded ops a.tmps) = true then Oper.wp Try.prog o a w K Q else E := by
  rcases h with ⟨rfl, hv, h⟩ | ⟨rfl, hv, h⟩
  · exact step_copyS hgd s x ho g hs v ss hx hv hl1 h
  · exact step_copyO hgd s x ho g hs v ws hx hv hl2 h

set_option maxRecDepth 100000 in
set_option maxHeartbeats 3200000 in
theorem specCopyO_cap (v1 v2 : Value) (ss : List ByteArray) (ws : List Wr) (w : World) (hv1 : SR w v1 ss) (hv2 : WR w v2 ws) (h1 : ss.length ≤ 1000000000000) (h2 : ws.length ≤ 1000000000000) :
    Calls Try.prog 29 #[.agg #[v1, v2]] w fun e w' => ∃ u1 u2, e = .returned (.agg #[u1, u2]) ∧ NS w.heap.size w' u1 ss ∧ NO w.heap.size w' u2 ws ∧ Below w.heap.size w w' ∧ CapS u1 := by
  have r0 : Res (w.heap.size + 1) ((w.alloc (.cells #[v1, v2] 27)).alloc (.cells #[.slice none 0 0, .slice none 0 0] 27)) :=
    ⟨cell_new _ _ 27 _ (by simp) 0 _ rfl, cell_new _ _ 27 _ (by simp) 1 _ rfl, frozen_new _ _ 27 _ (by simp) 0, frozen_new _ _ 27 _ (by simp) 1, by simp⟩
  go_enter Try.func29, Try.ntmps29
  go_wp2_with fail
  go_region_held3 (fun w' => w'.cell? ⟨w.heap.size, 0, none⟩ = some v1 ∧ w'.cell? ⟨w.heap.size, 1, none⟩ = some v2)
    (first
      | (go_keep; done)
      | (go_split_ands; refine ⟨?_, ?_⟩ <;> (first | (with_reducible exact cell_later (bel_one _ _) (by assumption)) | (rw [hbA.cell ?_]; (focus assumption); (focus (first | (simp; done) | (simp; omega) | omega))) | (rw [hbB.cell ?_]; (focus assumption); (focus (first | (simp; done) | (simp; omega) | omega))) | (rw [World.cell?_setCell_other _ _ _ _ (by simp), World.cell?_setCell_other _ _ _ _ (by simp)]; assumption))))
    ((refine step_copyWO _ (by rfl) _ _ (by rfl) _ (by rfl) _ ss ws (by rfl) h1 h2 ?_; (first | (refine .inl ⟨rfl, ?_, ?_⟩; (focus (repeat (first | (with_reducible refine SR.dr ?_) | (with_reducible refine SR.al ?_ _) | (with_reducible refine SR.later ?_ hbB) | exact hv1))); intro ao an ac wA hNA hbA hcA; have rA : Res (w.heap.size + 1) wA := (by (refine Res.later ?_ hbA; repeat (first | (with_reducible exact r0) | (with_reducible exact rB) | (with_reducible refine Res.dr ?_) | (with_reducible refine Res.al ?_ _)))); have qA := rA.1; have pA := rA.2.1; have fA := rA.2.2.1; have gA := rA.2.2.2.1; have zA := rA.2.2.2.2) | (refine .inr ⟨rfl, ?_, ?_⟩; (focus (repeat (first | (with_reducible refine WR.dr ?_) | (with_reducible refine WR.al ?_ _) | (with_reducible refine WR.later ?_ hbA) | exact hv2))); intro bo bn bc wB hNB hbB; have rB : Res (w.heap.size + 1) wB := (by (refine Res.later ?_ hbB; repeat (first | (with_reducible exact r0) | (with_reducible exact rA) | (with_reducible refine Res.dr ?_) | (with_reducible refine Res.al ?_ _)))); have qB := rB.1; have pB := rB.2.1; have fB := rB.2.2.1; have gB := rB.2.2.2.1; have zB := rB.2.2.2.2))))
  all_goals
    have hbw1 : Below w.heap.size w wA := by
      refine Below.trans ?_ (hbA.mono (by first | (simp; done) | (simp; omega)))
      first
        | exact ((bel_two _ _ _).alloc (by simp; omega) _).drew
        | exact (((bel_two _ _ _).alloc (by simp; omega) _).alloc (by simp; omega) _).drew
    have hbw : Below w.heap.size w wB := by
      refine Below.trans ?_ (hbB.mono (by first | (simp; omega) | omega))
      first
        | exact hbw1
        | exact hbw1.alloc hbw1.size _
    have e0 : NS (w.heap.size + 1 + 1) wA (.slice ao an ac) ss := hNA.mono (by first | (simp; done) | (simp; omega))
    have e1 : NS (w.heap.size + 1 + 1) wB (.slice ao an ac) ss := by
      first
        | (with_reducible exact e0.later hbB)
        | (with_reducible exact (e0.al _).later hbB)
    have e2 : NO (w.heap.size + 1 + 1) wB (.slice bo bn bc) ws := hNB.mono (by first | (simp; omega) | omega)
    have e3 := (e1.store (b := w.heap.size + 1) (o := 0) (.slice ao an ac) (by omega)).store (b := w.heap.size + 1) (o := 1) (.slice bo bn bc) (by omega)
    have e4 := (e2.store (b := w.heap.size + 1) (o := 0) (.slice ao an ac) (by omega)).store (b := w.heap.size + 1) (o := 1) (.slice bo bn bc) (by omega)
    have e5 := (hbw.setCell (p := ⟨w.heap.size + 1, 0, none⟩) (by simp) (.slice ao an ac)).setCell (p := ⟨w.heap.size + 1, 1, none⟩) (by simp) (.slice bo bn bc)
    clear e0 e1 e2 hbw hbw1 hNA hNB hbA hbB rA rB r0
    go_wp2
    exact bodyPost_ret (v := .agg #[.slice ao an ac, .slice bo bn bc]) (by simp [results, Try.results29, go_sem, qB, pB]) rfl ⟨_, _, rfl, e3.mono (by omega), e4.mono (by omega), e5, hcA⟩

theorem specCopyO_any (v1 v2 : Value) (ss : List ByteArray) (ws : List Wr) (w : World) (hv1 : SR w v1 ss) (hv2 : WR w v2 ws) (h1 : ss.length ≤ 1000000000000) (h2 : ws.length ≤ 1000000000000) :
    Calls Try.prog 29 #[.agg #[v1, v2]] w fun e w' => ∃ u1 u2, e = .returned (.agg #[u1, u2]) ∧ NS w.heap.size w' u1 ss ∧ NO w.heap.size w' u2 ws ∧ Below w.heap.size w w' :=
  (specCopyO_cap v1 v2 ss ws w hv1 hv2 h1 h2).mono fun _ _ ⟨u1, u2, a, b, c, d, _⟩ => ⟨u1, u2, a, b, c, d⟩

end Go.Proofs.Ytddocjmjianajaa.Disk
