import Derived.Test.YtjclpbaiiklhcaaGreatDoorZV5
import Derived.Test.YtjclpbaiiklhcaaGreatDoorZV15
import Derived.Test.YtjclpbaiiklhcaaGreatDoorZV13


/- Put of the model. -/
namespace Go.Proofs.YtjclpbaiiklhcaaGreatDoor.Disk
open Go.RowKit Go.Deep

def putOk (ss : List ByteArray) (ws : List Wr) (sec : Int) (txt : ByteArray) : Bool := okD ss ws && okW (sec, txt) && !decide (ws.length = 200)
def putS (ss : List ByteArray) (ws : List Wr) (sec : Int) (txt : ByteArray) : List ByteArray := if putOk ss ws sec txt = true then ss else []
def putW (ss : List ByteArray) (ws : List Wr) (sec : Int) (txt : ByteArray) : List Wr := if putOk ss ws sec txt = true then ws ++ [(sec, txt)] else []

theorem putOk_false {ss : List ByteArray} {ws : List Wr} {sec : Int} {txt : ByteArray} (h : okD ss ws = false ∨ okW (sec, txt) = false ∨ ws.length = 200) : putOk ss ws sec txt = false := by
  unfold putOk
  rcases h with h | h | h <;> simp [h]
theorem putOk_true {ss : List ByteArray} {ws : List Wr} {sec : Int} {txt : ByteArray} (h1 : okD ss ws = true) (h2 : okW (sec, txt) = true) (h3 : ¬ ws.length = 200) : putOk ss ws sec txt = true := by
  unfold putOk
  simp [h1, h2, h3]
theorem putS_false {ss : List ByteArray} {ws : List Wr} {sec : Int} {txt : ByteArray} (h : putOk ss ws sec txt = false) : putS ss ws sec txt = [] := by unfold putS; rw [if_neg (by rw [h]; simp)]
theorem putW_false {ss : List ByteArray} {ws : List Wr} {sec : Int} {txt : ByteArray} (h : putOk ss ws sec txt = false) : putW ss ws sec txt = [] := by unfold putW; rw [if_neg (by rw [h]; simp)]
theorem putS_true {ss : List ByteArray} {ws : List Wr} {sec : Int} {txt : ByteArray} (h : putOk ss ws sec txt = true) : putS ss ws sec txt = ss := by unfold putS; rw [if_pos h]
theorem putW_true {ss : List ByteArray} {ws : List Wr} {sec : Int} {txt : ByteArray} (h : putOk ss ws sec txt = true) : putW ss ws sec txt = ws ++ [(sec, txt)] := by unfold putW; rw [if_pos h]

/-- The append of one write, as a step of a walk. -/
theorem wpList_one {ops : Array Oper} {rest : List Oper} {o : Oper} {a : Act} {w : World} {Q : Exit → Act → World → Prop} (hgd : o.guard = none) (s x : Operand)
    (ho : o.op = .call { callee := .builtin .append, args := #[s, x], argTypes := #[25, 25] }) (B xb : Nat) (v : Value) (ws : List Wr) (y : Wr) (hs : a.eval s = v) (hx : a.eval x = .slice (some ⟨xb, 0, none⟩) 1 1)
    (hv : NO B w v ws) (hx0 : w.cell? ⟨xb, 0, none⟩ = some (.int .i64 y.1)) (hx1 : w.cell? ⟨xb, 1, none⟩ = some (.string y.2)) (hl : ws.length ≤ 1000000000000) (hB : B ≤ w.heap.size)
    (h : ∀ ao n cap w', NO B w' (.slice ao n cap) (ws ++ [y]) → w.grownBy w' (rowO v) → wpList Tryz.prog ops Q rest (a.put o.dst (.slice ao n cap)) w') : wpList Tryz.prog ops Q (o :: rest) a w :=
  wpList_plain hgd fun _ hK => by
    obtain ⟨ao, n, cap, w', hr, h2, h3⟩ := run_one w B xb v ws y o.type hv hx0 hx1 hl hB
    unfold Oper.wp execOp
    simp only [ho, resolve, invoke, builtin, Sem.run_bind, Sem.run_pure, Result.andThen_ok, List.map_toArray, List.map_cons, List.map_nil, hs, hx, hr]
    exact hK _ _ (h ao n cap w' h2 h3)

theorem NS.apart {B B' : Nat} {w : World} {v u : Value} {ss : List ByteArray} {ws : List Wr} (h : NS B w v ss) (k : NO B' w u ws) : ss = [] ∨ v.ownBlock ≠ rowO u := by
  by_cases h0 : ss.length = 0
  · exact .inl (List.length_eq_zero_iff.1 h0)
  · refine .inr (fun e => ?_)
    obtain ⟨ao, cap, rfl, hh⟩ := h.1
    obtain ⟨b, N, f, rfl, _, hr⟩ := hh.resolve_left h0
    rcases k.two with ⟨ao, rfl, _⟩ | ⟨ho, e'⟩
    · cases ao <;> simp [rowO, Value.ownBlock] at e
    · rw [e'] at e
      obtain ⟨_, ⟨rfl, _⟩ | ⟨g, cp, cur, rfl, _, hg, _⟩⟩ := ho
      · simp [Value.ownBlock] at e
      · simp [Value.ownBlock] at e
        subst e
        obtain ⟨c, hc, _⟩ := hr
        rw [hc] at hg
        cases hg
theorem NS.one {B B' : Nat} {w w' : World} {v u : Value} {ss : List ByteArray} {ws : List Wr} (h : NS B w v ss) (k : NO B' w u ws) (hg : w.grownBy w' (rowO u)) : NS B w' v ss := by
  have ha := h.apart k
  exact ⟨h.1.grown hg (ha.imp (fun e => by rw [e]; rfl) id), h.2.1.grown hg ha, h.2.2⟩

theorem NO.offset {B : Nat} {w : World} {v : Value} {ws : List Wr} (h : NO B w v ws) {b : Nat} {c : Array Value} {t : TypeId} (hb : w.heap[b]? = some (.cells c t (0, 0))) (ht : t ≠ 48) (o : Nat) (u : Value) : NO B (w.setCell ⟨b, o, none⟩ u) v ws :=
  h.imp id (fun h => h.kept (grown_set w b o u) (by
    obtain ⟨_, ⟨rfl, _⟩ | ⟨g, cp, cur, rfl, _, hg, _⟩⟩ := h
    · exact .inl rfl
    · refine .inr (fun e => ?_)
      simp [Value.ownBlock] at e
      subst e
      rw [hb] at hg
      cases hg
      exact ht rfl))
theorem NS.offset {B : Nat} {w : World} {v : Value} {ss : List ByteArray} (h : NS B w v ss) {b : Nat} {c : Array Value} {t : TypeId} (hb : w.heap[b]? = some (.cells c t (0, 0))) (ht : t ≠ 9) (o : Nat) (u : Value) : NS B (w.setCell ⟨b, o, none⟩ u) v ss := by
  have ha : ss = [] ∨ v.ownBlock ≠ some b := by
    by_cases h0 : ss.length = 0
    · exact .inl (List.length_eq_zero_iff.1 h0)
    · refine .inr (fun e => ?_)
      obtain ⟨ao, cap, rfl, hh⟩ := h.1
      obtain ⟨b', N, f, rfl, _, hr⟩ := hh.resolve_left h0
      simp [Value.ownBlock] at e
      subst e
      obtain ⟨c', hc, _⟩ := hr
      rw [hc] at hb
      cases hb
      exact ht rfl
  exact ⟨h.1.grown (grown_set w b o u) (ha.imp (fun e => by rw [e]; rfl) id), h.2.1.grown (grown_set w b o u) ha, h.2.2⟩

set_option maxRecDepth 100000 in
set_option maxHeartbeats 2000000 in
theorem specPut_no (v1 v2 : Value) (ss : List ByteArray) (ws : List Wr) (sec : Int) (txt : ByteArray) (w : World) (hv1 : SR w v1 ss) (hv2 : WR w v2 ws) (h1 : ss.length ≤ 10000000000000) (h2 : ws.length ≤ 10000000000000) :
    Calls Tryz.prog 70 #[.agg #[v1, v2], .int .i64 sec, .string txt] w fun e w' => ∃ u1 u2, e = .returned (.tuple #[.agg #[u1, u2], .bool (putOk ss ws sec txt)]) ∧ ND w.heap.size w' u1 u2 (putS ss ws sec txt) (putW ss ws sec txt) ∧ NO w.heap.size w' u2 (putW ss ws sec txt) ∧ Below w.heap.size w w' ∧ CapS u1 := by
  have hb0 : Below w.heap.size w (((w.alloc (.cells #[v1, v2] 27)).alloc (.cells #[.slice none 0 0, .slice none 0 0] 27)).alloc (.cells #[.int .i64 sec, .string txt] 48)) := (bel_two _ _ _).alloc (by simp; omega) _
  go_enter Tryz.func70, Tryz.ntmps70
  go_wp2_with (fail)
  refine (specDiskOk_any _ _ ss ws _ (hv1.later hb0) (hv2.later hb0) h1 h2).mono ?_
  rintro e w1 ⟨rfl, hb1⟩
  have hbw1 : Below w.heap.size w w1 := hb0.trans (hb1.mono (by simp; omega))
  have r1 : Res (w.heap.size + 1) w1 := Res.later (Res.al ⟨cell_new _ _ 27 _ (by simp) 0 _ rfl, cell_new _ _ 27 _ (by simp) 1 _ rfl, frozen_new _ _ 27 _ (by simp) 0, frozen_new _ _ 27 _ (by simp) 1, by simp⟩ _) hb1
  have c0 : w1.cell? ⟨w.heap.size, 0, none⟩ = some v1 := cell_later hb1 (cell_later (bel_two _ _ _) (cell_new w #[v1, v2] 27 _ rfl 0 _ rfl))
  have c1 : w1.cell? ⟨w.heap.size, 1, none⟩ = some v2 := cell_later hb1 (cell_later (bel_two _ _ _) (cell_new w #[v1, v2] 27 _ rfl 1 _ rfl))
  have x0 : w1.cell? ⟨w.heap.size + 1 + 1, 0, none⟩ = some (.int .i64 sec) := cell_later hb1 (cell_new _ #[.int .i64 sec, .string txt] 48 _ (by simp) 0 _ rfl)
  have x1 : w1.cell? ⟨w.heap.size + 1 + 1, 1, none⟩ = some (.string txt) := cell_later hb1 (cell_new _ #[.int .i64 sec, .string txt] 48 _ (by simp) 1 _ rfl)
  cases hok : okD ss ws
  · have HP : Hid (putOk ss ws sec txt = false) := putOk_false (.inl hok)
    have q0 := r1.1
    have q1 := r1.2.1
    have f0 := r1.2.2.1
    have f1 := r1.2.2.2.1
    have e5 := (hbw1.setCell (p := ⟨w.heap.size + 1, 0, none⟩) (by simp) (.slice none 0 0)).setCell (p := ⟨w.heap.size + 1, 1, none⟩) (by simp) (.slice none 0 0)
    go_wp2
    exact bodyPost_ret (v := .tuple #[.agg #[.slice none 0 0, .slice none 0 0], .bool false]) (by simp [results, Tryz.results70, go_sem, q0, q1]) rfl ⟨_, _, by rw [HP.out], by rw [putS_false HP.out, putW_false HP.out]; exact nd_zero _ _, by rw [putW_false HP.out]; exact .inl ⟨none, rfl, rfl⟩, e5, ⟨_, _, _, rfl, Nat.le_refl _⟩⟩
  have HOK : Hid (okD ss ws = true) := hok
  clear hok
  go_wp2_with (fail)
  refine (l1Write_any _ _ _).mono ?_
  rintro e w2 ⟨rfl, hb2⟩
  have hbw2 := bel_then hbw1 hbw1.size hb2
  have r2 := r1.later hb2
  have d0 := cell_later hb2 c0
  have d1 := cell_later hb2 c1
  have y0 := cell_later hb2 x0
  have y1 := cell_later hb2 x1
  clear c0 c1 x0 x1 r1
  cases how : okW (sec, txt)
  · have HP : Hid (putOk ss ws sec txt = false) := putOk_false (.inr (.inl how))
    have q0 := r2.1
    have q1 := r2.2.1
    have f0 := r2.2.2.1
    have f1 := r2.2.2.2.1
    have e5 := (hbw2.setCell (p := ⟨w.heap.size + 1, 0, none⟩) (by simp) (.slice none 0 0)).setCell (p := ⟨w.heap.size + 1, 1, none⟩) (by simp) (.slice none 0 0)
    go_wp2
    exact bodyPost_ret (v := .tuple #[.agg #[.slice none 0 0, .slice none 0 0], .bool false]) (by simp [results, Tryz.results70, go_sem, q0, q1]) rfl ⟨_, _, by rw [HP.out], by rw [putS_false HP.out, putW_false HP.out]; exact nd_zero _ _, by rw [putW_false HP.out]; exact .inl ⟨none, rfl, rfl⟩, e5, ⟨_, _, _, rfl, Nat.le_refl _⟩⟩
  have HOW : Hid (okW (sec, txt) = true) := how
  clear how
  have hv2' := hv2
  obtain ⟨bo, cbp, rfl, hu⟩ := hv2
  clear hu
  by_cases hlen : ws.length = 200
  · have HP : Hid (putOk ss ws sec txt = false) := putOk_false (.inr (.inr hlen))
    have te : ((ws.length : Int) == 200) = true := by simp; omega
    have q0 := r2.1
    have q1 := r2.2.1
    have f0 := r2.2.2.1
    have f1 := r2.2.2.2.1
    have e5 := (hbw2.setCell (p := ⟨w.heap.size + 1, 0, none⟩) (by simp) (.slice none 0 0)).setCell (p := ⟨w.heap.size + 1, 1, none⟩) (by simp) (.slice none 0 0)
    clear hlen
    go_wp2
    exact bodyPost_ret (v := .tuple #[.agg #[.slice none 0 0, .slice none 0 0], .bool false]) (by simp [results, Tryz.results70, go_sem, q0, q1]) rfl ⟨_, _, by rw [HP.out], by rw [putS_false HP.out, putW_false HP.out]; exact nd_zero _ _, by rw [putW_false HP.out]; exact .inl ⟨none, rfl, rfl⟩, e5, ⟨_, _, _, rfl, Nat.le_refl _⟩⟩
  have HP : Hid (putOk ss ws sec txt = true) := putOk_true HOK.out HOW.out hlen
  have te : ((ws.length : Int) == 200) = false := by simp; omega
  obtain ⟨l64, l200, _, _⟩ := okD_all HOK.out
  have L1 : Hid (ss.length ≤ 1000000000000) := (by omega : ss.length ≤ 1000000000000)
  have L2 : Hid (ws.length ≤ 1000000000000) := (by omega : ws.length ≤ 1000000000000)
  clear hlen l64 l200
  go_wp2_with (fail)
  refine (specCopyO_cap _ _ ss ws _ (hv1.later hbw2) (hv2'.later hbw2) L1.out L2.out).mono ?_
  rintro e w3 ⟨u1, u2, rfl, hS3, hO3, hb3, hcp'⟩
  have hcp : Hid (CapS u1) := hcp'
  clear hcp'
  have hbw3 := bel_then hbw2 hbw2.size hb3
  have r3 := r2.later hb3
  have z0 := cell_later hb3 y0
  have z1 := cell_later hb3 y1
  have hz2' : w.heap.size + 1 + 1 < w2.heap.size := World.block_lt_of_cell? _ _ y0
  clear d0 d1 y0 y1 r2
  obtain ⟨ga, gn, gc, rfl⟩ := hS3.s1
  obtain ⟨ha, hn, hc, rfl⟩ := hO3.s1
  have hz : w.heap.size + 1 + 1 < w3.heap.size := World.block_lt_of_cell? _ _ z0
  have hz2 : w.heap.size + 1 + 1 < w2.heap.size := hz2'
  have hB4 := bel_two w3 (.cells #[.slice ga gn gc, .slice ha hn hc] 27) (.cells #[.int .i64 sec, .string txt] 48)
  have hs3 : w2.heap.size ≤ w3.heap.size := hb3.size
  have hBB : w2.heap.size ≤ ((w3.alloc (.cells #[.slice ga gn gc, .slice ha hn hc] 27)).alloc (.cells #[.int .i64 sec, .string txt] 48)).heap.size := by simp; omega
  have hO4 := hO3.later hB4
  have hS4 := hS3.later hB4
  have hbw4 := bel_then hbw3 hbw3.size hB4
  have hx0 := cell_new (w3.alloc (.cells #[.slice ga gn gc, .slice ha hn hc] 27)) #[.int .i64 sec, .string txt] 48 _ rfl 0 _ rfl
  have hx1 := cell_new (w3.alloc (.cells #[.slice ga gn gc, .slice ha hn hc] 27)) #[.int .i64 sec, .string txt] 48 _ rfl 1 _ rfl
  rw [World.size_alloc] at hx0 hx1
  have HO3 : Hid (NO w2.heap.size w3 (.slice ha hn hc) ws) := hO3
  have HR4 : Hid (Res (w.heap.size + 1) ((w3.alloc (.cells #[.slice ga gn gc, .slice ha hn hc] 27)).alloc (.cells #[.int .i64 sec, .string txt] 48))) := (r3.al _).al _
  have HB2 : Hid (B2 ((w3.alloc (.cells #[.slice ga gn gc, .slice ha hn hc] 27)).alloc (.cells #[.int .i64 sec, .string txt] 48)) w3.heap.size (.slice ga gn gc) (.slice ha hn hc)) := (B2.new w3 27 _ _).al _
  have HBX : Hid (((w3.alloc (.cells #[.slice ga gn gc, .slice ha hn hc] 27)).alloc (.cells #[.int .i64 sec, .string txt] 48)).heap[w3.heap.size]? = some (.cells #[.slice ga gn gc, .slice ha hn hc] 27 (0, 0))) := ((bel_one _ _).block w3.heap.size (by simp)).trans (heap_alloc_new w3 _)
  have HF0 : Hid (((w3.alloc (.cells #[.slice ga gn gc, .slice ha hn hc] 27)).alloc (.cells #[.int .i64 sec, .string txt] 48)).frozen? ⟨w3.heap.size, 0, none⟩ = false) := (frozen_later (bel_one _ _) (by simp) (frozen_new w3 #[.slice ga gn gc, .slice ha hn hc] 27 _ rfl 0))
  have HF : Hid (((w3.alloc (.cells #[.slice ga gn gc, .slice ha hn hc] 27)).alloc (.cells #[.int .i64 sec, .string txt] 48)).frozen? ⟨w3.heap.size, 1, none⟩ = false) := (frozen_later (bel_one _ _) (by simp) (frozen_new w3 #[.slice ga gn gc, .slice ha hn hc] 27 _ rfl 1))
  have K4 : Hid (∀ w4, World.grownBy ((w3.alloc (.cells #[.slice ga gn gc, .slice ha hn hc] 27)).alloc (.cells #[.int .i64 sec, .string txt] 48)) w4 (rowO (.slice ha hn hc)) → Res (w.heap.size + 1) w4 ∧ B2 w4 w3.heap.size (.slice ga gn gc) (.slice ha hn hc) ∧ w4.frozen? ⟨w3.heap.size, 0, none⟩ = false ∧ w4.frozen? ⟨w3.heap.size, 1, none⟩ = false ∧ w4.heap[w3.heap.size]? = some (.cells #[.slice ga gn gc, .slice ha hn hc] 27 (0, 0)) ∧ NS w2.heap.size w4 (.slice ga gn gc) ss ∧ Below w.heap.size w w4) := fun w4 hg => by
    have hrow := HO3.out.row
    have n1 : some (w.heap.size + 1) ≠ rowO (.slice ha hn hc) := fun e => by have := (hrow _ e.symm).1; omega
    have n2 : some w3.heap.size ≠ rowO (.slice ha hn hc) := fun e => by have := (hrow _ e.symm).2; omega
    have fz : ∀ b o, b < ((w3.alloc (.cells #[.slice ga gn gc, .slice ha hn hc] 27)).alloc (.cells #[.int .i64 sec, .string txt] 48)).heap.size → some b ≠ rowO (.slice ha hn hc) → ((w3.alloc (.cells #[.slice ga gn gc, .slice ha hn hc] 27)).alloc (.cells #[.int .i64 sec, .string txt] 48)).frozen? ⟨b, o, none⟩ = false → w4.frozen? ⟨b, o, none⟩ = false := fun b o hb hne h => by
      rw [← h]
      exact World.frozen?_of_block (hg.block b hb hne)
    obtain ⟨a1, a2, a3, a4, a5⟩ := HR4.out
    refine ⟨⟨hg.cell a1 n1, hg.cell a2 n1, fz _ _ a5 n1 a3, fz _ _ a5 n1 a4, Nat.lt_of_lt_of_le a5 hg.size⟩, ⟨hg.cell HB2.out.1 n2, hg.cell HB2.out.2 n2⟩, fz _ _ (by simp; omega) n2 HF0.out, fz _ _ (by simp; omega) n2 HF.out, (hg.block w3.heap.size (by simp; omega) n2).trans HBX.out, hS4.one hO4 hg, hbw4.grown hg hbw4.size (fun k e => by have := (hrow k e).1; omega)⟩
  clear hO3 r3
  go_wp2_with (first | (at_builtin; refine wpList_one rfl _ _ rfl w2.heap.size (w3.heap.size + 1) _ ws (sec, txt) rfl rfl hO4 hx0 hx1 L2.out hBB ?_; intro ao an ac w4 hO5 hg5; obtain ⟨R4, ⟨b0, b1⟩, G0, G1, X4, S4, B4⟩ := K4.out w4 hg5; have q0 := R4.1; have q1 := R4.2.1; have f0 := R4.2.2.1; have f1 := R4.2.2.2.1; have HX4 : Hid (w4.heap[w3.heap.size]? = some (.cells #[.slice ga gn gc, .slice ha hn hc] 27 (0, 0))) := X4; clear X4))
  have e3 := ((S4.offset HX4.out (by simp) 1 (.slice ao an ac)).store (b := w.heap.size + 1) (o := 0) (.slice ga gn gc) (by omega)).store (b := w.heap.size + 1) (o := 1) (.slice ao an ac) (by omega)
  have e4 := ((hO5.offset HX4.out (by simp) 1 (.slice ao an ac)).store (b := w.heap.size + 1) (o := 0) (.slice ga gn gc) (by omega)).store (b := w.heap.size + 1) (o := 1) (.slice ao an ac) (by omega)
  have e5 := ((B4.setCell (p := ⟨w3.heap.size, 1, none⟩) (by simp; omega) (.slice ao an ac)).setCell (p := ⟨w.heap.size + 1, 0, none⟩) (by simp) (.slice ga gn gc)).setCell (p := ⟨w.heap.size + 1, 1, none⟩) (by simp) (.slice ao an ac)
  have p0 := cell_put (b := w3.heap.size) (k := 1) (u := .slice ao an ac) (by omega) q0
  have p1 := cell_put (b := w3.heap.size) (k := 1) (u := .slice ao an ac) (by omega) q1
  exact bodyPost_ret (v := .tuple #[.agg #[.slice ga gn gc, .slice ao an ac], .bool true]) (by simp [results, Tryz.results70, go_sem, p0, p1]) rfl ⟨_, _, by rw [HP.out], by rw [putS_true HP.out, putW_true HP.out]; exact ND_of (e3.mono (by omega)) (e4.nw.mono (by omega)), by rw [putW_true HP.out]; exact e4.mono (by omega), e5, hcp.out⟩

theorem specPut_any (v1 v2 : Value) (ss : List ByteArray) (ws : List Wr) (sec : Int) (txt : ByteArray) (w : World) (hv1 : SR w v1 ss) (hv2 : WR w v2 ws) (h1 : ss.length ≤ 10000000000000) (h2 : ws.length ≤ 10000000000000) :
    Calls Tryz.prog 70 #[.agg #[v1, v2], .int .i64 sec, .string txt] w fun e w' => ∃ u1 u2, e = .returned (.tuple #[.agg #[u1, u2], .bool (putOk ss ws sec txt)]) ∧ ND w.heap.size w' u1 u2 (putS ss ws sec txt) (putW ss ws sec txt) ∧ Below w.heap.size w w' :=
  (specPut_no v1 v2 ss ws sec txt w hv1 hv2 h1 h2).mono fun _ _ ⟨u1, u2, e, n, _, b, _⟩ => ⟨u1, u2, e, n, b⟩

end Go.Proofs.YtjclpbaiiklhcaaGreatDoor.Disk
