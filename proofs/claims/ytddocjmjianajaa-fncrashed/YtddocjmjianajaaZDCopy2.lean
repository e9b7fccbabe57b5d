/- l1Copy of the model: a disk copied into memory of its own. -/
import Derived.Test.YtddocjmjianajaaZDCopy
namespace Go.Proofs.Ytddocjmjianajaa.Disk
open Go.RowKit Go.Deep

attribute [local go_sem ↓] Go.wp_at_zero Go.wp_at_succ

theorem SR.al {w : World} {v : Value} {ss : List ByteArray} (h : SR w v ss) (o : Obj) : SR (w.alloc o) v ss := h.later (bel_one w o)
theorem SR.dr {w : World} {v : Value} {ss : List ByteArray} (h : SR w v ss) : SR w.drew v ss := h
theorem WR.al {w : World} {v : Value} {ws : List Wr} (h : WR w v ws) (o : Obj) : WR (w.alloc o) v ws := h.later (bel_one w o)
theorem WR.dr {w : World} {v : Value} {ws : List Wr} (h : WR w v ws) : WR w.drew v ws := h
theorem NS.al {B : Nat} {w : World} {v : Value} {ss : List ByteArray} (h : NS B w v ss) (o : Obj) : NS B (w.alloc o) v ss := h.later (bel_one w o)
theorem NS.dr {B : Nat} {w : World} {v : Value} {ss : List ByteArray} (h : NS B w v ss) : NS B w.drew v ss := h
theorem NW.al {B : Nat} {w : World} {v : Value} {ws : List Wr} (h : NW B w v ws) (o : Obj) : NW B (w.alloc o) v ws := h.later (bel_one w o)
theorem NW.dr {B : Nat} {w : World} {v : Value} {ws : List Wr} (h : NW B w v ws) : NW B w.drew v ws := h

/-- A result's two cells in block R, still empty. -/
def Res (R : Nat) (w : World) : Prop := w.cell? ⟨R, 0, none⟩ = some (.slice none 0 0) ∧ w.cell? ⟨R, 1, none⟩ = some (.slice none 0 0) ∧ w.frozen? ⟨R, 0, none⟩ = false ∧ w.frozen? ⟨R, 1, none⟩ = false ∧ R < w.heap.size
theorem Res.later {R : Nat} {w w' : World} (h : Res R w) (hb : Below w.heap.size w w') : Res R w' :=
  ⟨cell_later hb h.1, cell_later hb h.2.1, frozen_later hb h.2.2.2.2 h.2.2.1, frozen_later hb h.2.2.2.2 h.2.2.2.1, Nat.lt_of_lt_of_le h.2.2.2.2 hb.size⟩
theorem Res.al {R : Nat} {w : World} (h : Res R w) (o : Obj) : Res R (w.alloc o) := h.later (bel_one w o)
theorem Res.dr {R : Nat} {w : World} (h : Res R w) : Res R w.drew := h

theorem step_copy {ops : Array Oper} {o : Oper} {a : Act} {w : World} {K : Act → World → Prop} {Q : Exit → Act → World → Prop} {E : Prop} (t : TypeId) (hgd : o.guard = none) (s x : Operand)
    (ho : o.op = .call { callee := .builtin .append, args := #[s, x], argTypes := #[t, t] }) (g : Nat) (hs : a.eval s = .slice (some ⟨g, 0, none⟩) 0 0) (v : Value) (ss : List ByteArray) (ws : List Wr) (hx : a.eval x = v)
    (hl1 : ss.length ≤ 1000000000000) (hl2 : ws.length ≤ 1000000000000)
    (h : (t = 24 ∧ SR w v ss ∧ ∀ ao n cap w', NS w.heap.size w' (.slice ao n cap) ss → Below w.heap.size w w' → CapS (.slice ao n cap) → K (a.put o.dst (.slice ao n cap)) w') ∨
      (t = 25 ∧ WR w v ws ∧ ∀ ao n cap w', NW w.heap.size w' (.slice ao n cap) ws → Below w.heap.size w w' → K (a.put o.dst (.slice ao n cap)) w')) :
    if Region.wanted o (yielded ops a.tmps) = true then Oper.wp Try.prog o a w K Q else E := by
  rcases h with ⟨rfl, hv, h⟩ | ⟨rfl, hv, h⟩
  · exact step_copyS hgd s x ho g hs v ss hx hv hl1 h
  · exact step_copyW hgd s x ho g hs v ws hx hv hl2 h

set_option maxRecDepth 100000 in
set_option maxHeartbeats 3200000 in
theorem specCopy_cap (v1 v2 : Value) (ss : List ByteArray) (ws : List Wr) (w : World) (hv1 : SR w v1 ss) (hv2 : WR w v2 ws) (h1 : ss.length ≤ 1000000000000) (h2 : ws.length ≤ 1000000000000) :
    Calls Try.prog 29 #[.agg #[v1, v2]] w fun e w' => ∃ u1 u2, e = .returned (.agg #[u1, u2]) ∧ ND w.heap.size w' u1 u2 ss ws ∧ Below w.heap.size w w' ∧ CapS u1 := by
  have r0 : Res (w.heap.size + 1) ((w.alloc (.cells #[v1, v2] 27)).alloc (.cells #[.slice none 0 0, .slice none 0 0] 27)) :=
    ⟨cell_new _ _ 27 _ (by simp) 0 _ rfl, cell_new _ _ 27 _ (by simp) 1 _ rfl, frozen_new _ _ 27 _ (by simp) 0, frozen_new _ _ 27 _ (by simp) 1, by simp⟩
  go_enter Try.func29, Try.ntmps29
  go_wp2_with fail
  go_region_held3 (fun w' => w'.cell? ⟨w.heap.size, 0, none⟩ = some v1 ∧ w'.cell? ⟨w.heap.size, 1, none⟩ = some v2)
    (first
      | (go_keep; done)
      | (go_split_ands; refine ⟨?_, ?_⟩ <;> (first | (with_reducible exact cell_later (bel_one _ _) (by assumption)) | (rw [hbA.cell ?_]; (focus assumption); (focus (first | (simp; done) | (simp; omega) | omega))) | (rw [hbB.cell ?_]; (focus assumption); (focus (first | (simp; done) | (simp; omega) | omega))) | (rw [World.cell?_setCell_other _ _ _ _ (by simp), World.cell?_setCell_other _ _ _ _ (by simp)]; assumption))))
    ((refine step_copy _ (by rfl) _ _ (by rfl) _ (by rfl) _ ss ws (by rfl) h1 h2 ?_; (first | (refine .inl ⟨rfl, ?_, ?_⟩; (focus (repeat (first | (with_reducible refine SR.dr ?_) | (with_reducible refine SR.al ?_ _) | (with_reducible refine SR.later ?_ hbB) | exact hv1))); intro ao an ac wA hNA hbA hcA; have rA : Res (w.heap.size + 1) wA := (by (refine Res.later ?_ hbA; repeat (first | (with_reducible exact r0) | (with_reducible exact rB) | (with_reducible refine Res.dr ?_) | (with_reducible refine Res.al ?_ _)))); have qA := rA.1; have pA := rA.2.1; have fA := rA.2.2.1; have gA := rA.2.2.2.1; have zA := rA.2.2.2.2) | (refine .inr ⟨rfl, ?_, ?_⟩; (focus (repeat (first | (with_reducible refine WR.dr ?_) | (with_reducible refine WR.al ?_ _) | (with_reducible refine WR.later ?_ hbA) | exact hv2))); intro bo bn bc wB hNB hbB; have rB : Res (w.heap.size + 1) wB := (by (refine Res.later ?_ hbB; repeat (first | (with_reducible exact r0) | (with_reducible exact rA) | (with_reducible refine Res.dr ?_) | (with_reducible refine Res.al ?_ _)))); have qB := rB.1; have pB := rB.2.1; have fB := rB.2.2.1; have gB := rB.2.2.2.1; have zB := rB.2.2.2.2))))
  all_goals
    have hbw1 : Below w.heap.size w wA := by
      refine Below.trans ?_ (hbA.mono (by first | (simp; done) | (simp; omega)))
      first
        | exact ((bel_two _ _ _).alloc (by simp; omega) _).drew
        | exact (((bel_two _ _ _).alloc (by simp; omega) _).alloc (by simp; omega) _).drew
    have hbw : Below w.heap.size w wB := by
      refine Below.trans ?_ (hbB.mono (by first | (simp; omega) | omega))
      first
        | exact hbw1
        | exact hbw1.alloc hbw1.size _
    have e0 : NS (w.heap.size + 1 + 1) wA (.slice ao an ac) ss := hNA.mono (by first | (simp; done) | (simp; omega))
    have e1 : NS (w.heap.size + 1 + 1) wB (.slice ao an ac) ss := by
      first
        | (with_reducible exact e0.later hbB)
        | (with_reducible exact (e0.al _).later hbB)
    have e2 : NW (w.heap.size + 1 + 1) wB (.slice bo bn bc) ws := hNB.mono (by first | (simp; omega) | omega)
    have e3 := (e1.store (b := w.heap.size + 1) (o := 0) (.slice ao an ac) (by omega)).store (b := w.heap.size + 1) (o := 1) (.slice bo bn bc) (by omega)
    have e4 := (e2.store (b := w.heap.size + 1) (o := 0) (.slice ao an ac) (by omega)).store (b := w.heap.size + 1) (o := 1) (.slice bo bn bc) (by omega)
    have e5 := (hbw.setCell (p := ⟨w.heap.size + 1, 0, none⟩) (by simp) (.slice ao an ac)).setCell (p := ⟨w.heap.size + 1, 1, none⟩) (by simp) (.slice bo bn bc)
    clear e0 e1 e2 hbw hbw1 hNA hNB hbA hbB rA rB r0
    go_wp2
    exact bodyPost_ret (v := .agg #[.slice ao an ac, .slice bo bn bc]) (by simp [results, Try.results29, go_sem, qB, pB]) rfl ⟨_, _, rfl, ND_of (e3.mono (by omega)) (e4.mono (by omega)), e5, hcA⟩

theorem specCopy_any (v1 v2 : Value) (ss : List ByteArray) (ws : List Wr) (w : World) (hv1 : SR w v1 ss) (hv2 : WR w v2 ws) (h1 : ss.length ≤ 1000000000000) (h2 : ws.length ≤ 1000000000000) :
    Calls Try.prog 29 #[.agg #[v1, v2]] w fun e w' => ∃ u1 u2, e = .returned (.agg #[u1, u2]) ∧ ND w.heap.size w' u1 u2 ss ws ∧ Below w.heap.size w w' :=
  (specCopy_cap v1 v2 ss ws w hv1 hv2 h1 h2).mono fun _ _ ⟨u1, u2, a, b, c, _⟩ => ⟨u1, u2, a, b, c⟩

end Go.Proofs.Ytddocjmjianajaa.Disk
