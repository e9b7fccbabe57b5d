import Derived.Test.YtjclpbaiiklhcaaGreatDoorZDBase
import Derived.Deep.AppendSrc
import Derived.Deep.RegionHeld3
import Derived.Deep.DrawnRows
/- Copies by append onto an empty slice: l1Copy of the model. -/
namespace Go.Proofs.YtjclpbaiiklhcaaGreatDoor.Disk
open Go.RowKit Go.Deep

def scells (ss : List ByteArray) : List Value := ss.map Value.string
def lcells (ws : List Wr) : List Value := ws.flatMap fun x => [.int .i64 x.1, .string x.2]

theorem scells_length (ss : List ByteArray) : (scells ss).length = ss.length * 1 := by simp [scells]
theorem lcells_length (ws : List Wr) : (lcells ws).length = ws.length * 2 := by
  induction ws with
  | nil => rfl
  | cons x r ih => simp only [lcells, List.flatMap_cons, List.length_append, List.length_cons, List.length_nil] at ih ⊢; omega
theorem scells_get (ss : List ByteArray) (i : Nat) (h : i < ss.length) : (scells ss)[i]? = some (scell ss i) := by simp [scells, scell, h]
theorem lcells_get : ∀ (ws : List Wr) (i : Nat), i < ws.length * 2 → (lcells ws)[i]? = some (lcell ws i)
  | [], i, h => by simp at h
  | x :: r, 0, _ => by simp [lcells, lcell]
  | x :: r, 1, _ => by simp [lcells, lcell]
  | x :: r, i + 2, h => by
    have ih := lcells_get r i (by simp at h; omega)
    have e1 : (lcells (x :: r))[i + 2]? = (lcells r)[i]? := by simp [lcells]
    rw [e1, ih]
    unfold lcell
    rw [show (i + 2) / 2 = i / 2 + 1 from by omega, show (i + 2) % 2 = i % 2 from by omega]
    simp

theorem getElem?_lt {α : Type} {l : List α} {j : Nat} {u : α} (h : l[j]? = some u) : j < l.length := (List.getElem?_eq_some_iff.1 h).1

/-- The texts of a slice as what is appended. -/
theorem srcS {w : World} {v : Value} {ss : List ByteArray} (hv : SR w v ss) : Src Tryz.prog 1 24 v ss.length (scells ss) w := by
  obtain ⟨ao, cap, rfl, h⟩ := hv
  by_cases h0 : ss.length = 0
  · obtain rfl := List.length_eq_zero_iff.1 h0
    cases ao with
    | none => exact Src.ofNil w Tryz.under22 cap
    | some a => exact Src.ofSlice w Tryz.under22 a 0 cap [] rfl (fun j u hu => by simp at hu) (by simp)
  · obtain ⟨b, o, rfl, _⟩ := h 0 (by omega)
    refine Src.ofSlice w Tryz.under22 ⟨b, o, none⟩ ss.length cap (scells ss) (scells_length ss) (fun j u hu => ?_) (fun u hu => ?_)
    · have hj := getElem?_lt hu
      rw [scells_length, Nat.mul_one] at hj
      rw [scells_get ss j hj] at hu
      obtain ⟨b', o', e, hc⟩ := h j hj
      simp only [Option.some.injEq, Addr.mk.injEq, and_true] at e
      obtain ⟨rfl, rfl⟩ := e
      rw [Addr.add_lit, hc]
      exact hu
    · obtain ⟨s, _, rfl⟩ := List.mem_map.1 hu
      rfl

theorem srcW {w : World} {v : Value} {ws : List Wr} (hv : WR w v ws) : Src Tryz.prog 2 25 v ws.length (lcells ws) w := by
  obtain ⟨ao, cap, rfl, h⟩ := hv
  by_cases h0 : ws.length = 0
  · obtain rfl := List.length_eq_zero_iff.1 h0
    cases ao with
    | none => exact Src.ofNil w Tryz.under28 cap
    | some a => exact Src.ofSlice w Tryz.under28 a 0 cap [] rfl (fun j u hu => by simp at hu) (by simp)
  · obtain ⟨b, o, rfl, _⟩ := h 0 (by omega)
    refine Src.ofSlice w Tryz.under28 ⟨b, o, none⟩ ws.length cap (lcells ws) (lcells_length ws) (fun j u hu => ?_) (fun u hu => ?_)
    · have hj := getElem?_lt hu
      rw [lcells_length] at hj
      rw [lcells_get ws j hj] at hu
      obtain ⟨b', o', e, hc, hd⟩ := h (j / 2) (by omega)
      simp only [Option.some.injEq, Addr.mk.injEq, and_true] at e
      obtain ⟨rfl, rfl⟩ := e
      rw [Addr.add_lit, ← hu]
      unfold lcell
      by_cases hp : j % 2 = 0
      · rw [if_pos hp, ← hc]
        congr 2
        omega
      · rw [if_neg hp, ← hd]
        congr 2
        omega
    · obtain ⟨x, _, hx⟩ := List.mem_flatMap.1 hu
      simp at hx
      rcases hx with rfl | rfl <;> rfl

/-- A new row whose first cells are known. -/
theorem new_row (w : World) (xs : List Value) (Z : Array Value) (t : TypeId) (g : Nat → Value) (hg : ∀ i, i < xs.length → xs[i]? = some (g i)) :
    ∃ f : Nat → Value, (w.drew.alloc (.cells (xs.toArray ++ Z) t)).rowIs w.heap.size t (xs.toArray ++ Z).size (fun i => if i < xs.length then g i else f i) := by
  have h := row_any w.drew (xs.toArray ++ Z) t
  refine ⟨fun i => (xs.toArray ++ Z)[i]?.getD undef, h.congr fun i _ => ?_⟩
  by_cases hi : i < xs.length
  · rw [if_pos hi, Array.getElem?_append_left (by simpa using hi)]
    simp [hg i hi]
  · rw [if_neg hi]

/-- A slice's length is at most its capacity. -/
def CapS (v : Value) : Prop := ∃ ao n cap, v = .slice ao n cap ∧ n ≤ cap
theorem CapS.le {ao : Option Addr} {n cap : Nat} (h : CapS (.slice ao n cap)) : n ≤ cap := by
  obtain ⟨_, _, _, e, k⟩ := h
  cases e
  exact k
theorem run_copyS (w : World) (g : Nat) (v : Value) (ss : List ByteArray) (ty : TypeId) (hv : SR w v ss) (hl : ss.length ≤ 1000000000000) :
    ∃ v' w', (Builtin.append_ #[24, 24] ty #[.slice (some ⟨g, 0, none⟩) 0 0, v]).run Tryz.prog w = .ok v' w' ∧ NS w.heap.size w' v' ss ∧ Below w.heap.size w w' ∧ CapS v' := by
  obtain ⟨i, hi, hzz⟩ := Option.map_eq_some_iff.1 Tryz.info9
  simp only [Prod.mk.injEq] at hzz
  obtain ⟨hz, hs, hb⟩ := hzz
  have hsrc := srcS hv
  by_cases h0 : ss.length = 0
  · obtain rfl := List.length_eq_zero_iff.1 h0
    have hr := run_append_room_src (P := Tryz.prog) w 24 24 ty 9 i Tryz.under22 hi g 0 0 0 v 0 [] (by rw [hs]; exact hsrc) (by omega) (fun j hj => by simp at hj) (fun j hj => by simp at hj)
    refine ⟨_, _, hr, ⟨⟨_, _, rfl, .inl rfl⟩, ⟨_, _, rfl, fun i hi => by simp at hi⟩, fun b e => by simp [rowOf] at e⟩, Below.refl _ _, ⟨_, _, _, rfl, Nat.le_refl _⟩⟩
  · have hr := run_append_grow_src (P := Tryz.prog) w 24 24 ty 9 i _ Tryz.under22 hi hz (some ⟨g, 0, none⟩) 0 0 [] (by simp [Builtin.firstCells]; exact run_loadCells_list (P := Tryz.prog) w.drew ⟨g, 0, none⟩ [] (fun j v hj => by simp at hj)) v ss.length (scells ss) (by rw [hs]; exact hsrc) (by omega) (by omega) (growslice_fits (by omega) (by rw [hb]; omega))
    rw [Nat.zero_add, List.nil_append] at hr
    obtain ⟨f, R⟩ := new_row w (scells ss) (Builtin.zeroCells (Value.cells (.string ⟨#[]⟩)) (grownCap w ss.length 0 9 - ss.length)) 9 (scell ss) (fun i hi => by rw [scells_length, Nat.mul_one] at hi; exact scells_get ss i hi)
    rw [scells_length, Nat.mul_one] at R
    exact ⟨_, _, hr, ns_row R (by simp [scells]) (Nat.le_refl _), (Below.refl _ w).drew.alloc (Nat.le_refl _) _, ⟨_, _, _, rfl, grownCap_ge w ss.length 0 9⟩⟩

theorem run_copyW (w : World) (g : Nat) (v : Value) (ws : List Wr) (ty : TypeId) (hv : WR w v ws) (hl : ws.length ≤ 1000000000000) :
    ∃ v' w', (Builtin.append_ #[25, 25] ty #[.slice (some ⟨g, 0, none⟩) 0 0, v]).run Tryz.prog w = .ok v' w' ∧ NW w.heap.size w' v' ws ∧ Below w.heap.size w w' := by
  obtain ⟨i, hi, hzz⟩ := Option.map_eq_some_iff.1 Tryz.info53
  simp only [Prod.mk.injEq] at hzz
  obtain ⟨hz, hs, hb⟩ := hzz
  have hsrc := srcW hv
  by_cases h0 : ws.length = 0
  · obtain rfl := List.length_eq_zero_iff.1 h0
    have hr := run_append_room_src (P := Tryz.prog) w 25 25 ty 48 i Tryz.under28 hi g 0 0 0 v 0 [] (by rw [hs]; exact hsrc) (by omega) (fun j hj => by simp at hj) (fun j hj => by simp at hj)
    refine ⟨_, _, hr, ⟨⟨_, _, rfl, .inl rfl⟩, ⟨_, _, rfl, fun i hi => by simp at hi⟩, fun b e => by simp [rowOf] at e⟩, Below.refl _ _⟩
  · have hr := run_append_grow_src (P := Tryz.prog) w 25 25 ty 48 i _ Tryz.under28 hi hz (some ⟨g, 0, none⟩) 0 0 [] (by simp [Builtin.firstCells]; exact run_loadCells_list (P := Tryz.prog) w.drew ⟨g, 0, none⟩ [] (fun j v hj => by simp at hj)) v ws.length (lcells ws) (by rw [hs]; exact hsrc) (by omega) (by omega) (growslice_fits (by omega) (by rw [hb]; omega))
    rw [Nat.zero_add, List.nil_append] at hr
    obtain ⟨f, R⟩ := new_row w (lcells ws) (Builtin.zeroCells (Value.cells (.agg #[.int .i64 0, .string ⟨#[]⟩])) (grownCap w ws.length 0 48 - ws.length)) 48 (lcell ws) (fun i hi => by rw [lcells_length] at hi; exact lcells_get ws i hi)
    rw [lcells_length] at R
    exact ⟨_, _, hr, nw_row R (by simp [lcells_length]) (Nat.le_refl _), (Below.refl _ w).drew.alloc (Nat.le_refl _) _⟩

theorem step_copyS {ops : Array Oper} {o : Oper} {a : Act} {w : World} {K : Act → World → Prop} {Q : Exit → Act → World → Prop} {E : Prop} (hgd : o.guard = none) (s x : Operand)
    (ho : o.op = .call { callee := .builtin .append, args := #[s, x], argTypes := #[24, 24] }) (g : Nat) (hs : a.eval s = .slice (some ⟨g, 0, none⟩) 0 0) (v : Value) (ss : List ByteArray) (hx : a.eval x = v) (hv : SR w v ss) (hl : ss.length ≤ 1000000000000)
    (h : ∀ ao n cap w', NS w.heap.size w' (.slice ao n cap) ss → Below w.heap.size w w' → CapS (.slice ao n cap) → K (a.put o.dst (.slice ao n cap)) w') :
    if Region.wanted o (yielded ops a.tmps) = true then Oper.wp Tryz.prog o a w K Q else E := by
  have hw : Region.wanted o (yielded ops a.tmps) = true := by simp [Region.wanted, hgd]
  rw [if_pos hw]
  obtain ⟨v', w', hrun, hN, hb, hcp⟩ := run_copyS w g v ss o.type hv hl
  obtain ⟨ao, n, cap, rfl⟩ := hN.s1
  unfold Oper.wp
  simp [execOp, ho, resolve, invoke, builtin, hs, hx, hrun, Result.andThen]
  exact h _ _ _ _ hN hb hcp

theorem step_copyW {ops : Array Oper} {o : Oper} {a : Act} {w : World} {K : Act → World → Prop} {Q : Exit → Act → World → Prop} {E : Prop} (hgd : o.guard = none) (s x : Operand)
    (ho : o.op = .call { callee := .builtin .append, args := #[s, x], argTypes := #[25, 25] }) (g : Nat) (hs : a.eval s = .slice (some ⟨g, 0, none⟩) 0 0) (v : Value) (ws : List Wr) (hx : a.eval x = v) (hv : WR w v ws) (hl : ws.length ≤ 1000000000000)
    (h : ∀ ao n cap w', NW w.heap.size w' (.slice ao n cap) ws → Below w.heap.size w w' → K (a.put o.dst (.slice ao n cap)) w') :
    if Region.wanted o (yielded ops a.tmps) = true then Oper.wp Tryz.prog o a w K Q else E := by
  have hw : Region.wanted o (yielded ops a.tmps) = true := by simp [Region.wanted, hgd]
  rw [if_pos hw]
  obtain ⟨v', w', hrun, hN, hb⟩ := run_copyW w g v ws o.type hv hl
  obtain ⟨ao, n, cap, rfl⟩ := hN.s1
  unfold Oper.wp
  simp [execOp, ho, resolve, invoke, builtin, hs, hx, hrun, Result.andThen]
  exact h _ _ _ _ hN hb

end Go.Proofs.YtjclpbaiiklhcaaGreatDoor.Disk

/- l1Copy of the model: a disk copied into memory of its own. -/
namespace Go.Proofs.YtjclpbaiiklhcaaGreatDoor.Disk
open Go.RowKit Go.Deep

attribute [local go_sem ↓] Go.wp_at_zero Go.wp_at_succ

theorem SR.al {w : World} {v : Value} {ss : List ByteArray} (h : SR w v ss) (o : Obj) : SR (w.alloc o) v ss := h.later (bel_one w o)
theorem SR.dr {w : World} {v : Value} {ss : List ByteArray} (h : SR w v ss) : SR w.drew v ss := h
theorem WR.al {w : World} {v : Value} {ws : List Wr} (h : WR w v ws) (o : Obj) : WR (w.alloc o) v ws := h.later (bel_one w o)
theorem WR.dr {w : World} {v : Value} {ws : List Wr} (h : WR w v ws) : WR w.drew v ws := h
theorem NS.al {B : Nat} {w : World} {v : Value} {ss : List ByteArray} (h : NS B w v ss) (o : Obj) : NS B (w.alloc o) v ss := h.later (bel_one w o)
theorem NS.dr {B : Nat} {w : World} {v : Value} {ss : List ByteArray} (h : NS B w v ss) : NS B w.drew v ss := h
theorem NW.al {B : Nat} {w : World} {v : Value} {ws : List Wr} (h : NW B w v ws) (o : Obj) : NW B (w.alloc o) v ws := h.later (bel_one w o)
theorem NW.dr {B : Nat} {w : World} {v : Value} {ws : List Wr} (h : NW B w v ws) : NW B w.drew v ws := h

/-- A result's two cells in block R, still empty. -/
def Res (R : Nat) (w : World) : Prop := w.cell? ⟨R, 0, none⟩ = some (.slice none 0 0) ∧ w.cell? ⟨R, 1, none⟩ = some (.slice none 0 0) ∧ w.frozen? ⟨R, 0, none⟩ = false ∧ w.frozen? ⟨R, 1, none⟩ = false ∧ R < w.heap.size
theorem Res.later {R : Nat} {w w' : World} (h : Res R w) (hb : Below w.heap.size w w') : Res R w' :=
  ⟨cell_later hb h.1, cell_later hb h.2.1, frozen_later hb h.2.2.2.2 h.2.2.1, frozen_later hb h.2.2.2.2 h.2.2.2.1, Nat.lt_of_lt_of_le h.2.2.2.2 hb.size⟩
theorem Res.al {R : Nat} {w : World} (h : Res R w) (o : Obj) : Res R (w.alloc o) := h.later (bel_one w o)
theorem Res.dr {R : Nat} {w : World} (h : Res R w) : Res R w.drew := h

theorem step_copy {ops : Array Oper} {o : Oper} {a : Act} {w : World} {K : Act → World → Prop} {Q : Exit → Act → World → Prop} {E : Prop} (t : TypeId) (hgd : o.guard = none) (s x : Operand)
    (ho : o.op = .call { callee := .builtin .append, args := #[s, x], argTypes := #[t, t] }) (g : Nat) (hs : a.eval s = .slice (some ⟨g, 0, none⟩) 0 0) (v : Value) (ss : List ByteArray) (ws : List Wr) (hx : a.eval x = v)
    (hl1 : ss.length ≤ 1000000000000) (hl2 : ws.length ≤ 1000000000000)
    (h : (t = 24 ∧ SR w v ss ∧ ∀ ao n cap w', NS w.heap.size w' (.slice ao n cap) ss → Below w.heap.size w w' → CapS (.slice ao n cap) → K (a.put o.dst (.slice ao n cap)) w') ∨
      (t = 25 ∧ WR w v ws ∧ ∀ ao n cap w', NW w.heap.size w' (.slice ao n cap) ws → Below w.heap.size w w' → K (a.put o.dst (.slice ao n cap)) w')) :
    if Region.wanted o (yielded ops a.tmps) = true then Oper.wp Tryz.prog o a w K Q else E := by
  rcases h with ⟨rfl, hv, h⟩ | ⟨rfl, hv, h⟩
  · exact step_copyS hgd s x ho g hs v ss hx hv hl1 h
  · exact step_copyW hgd s x ho g hs v ws hx hv hl2 h

set_option maxRecDepth 100000 in
set_option maxHeartbeats 3200000 in
theorem specCopy_cap (v1 v2 : Value) (ss : List ByteArray) (ws : List Wr) (w : World) (hv1 : SR w v1 ss) (hv2 : WR w v2 ws) (h1 : ss.length ≤ 1000000000000) (h2 : ws.length ≤ 1000000000000) :
    Calls Tryz.prog 30 #[.agg #[v1, v2]] w fun e w' => ∃ u1 u2, e = .returned (.agg #[u1, u2]) ∧ ND w.heap.size w' u1 u2 ss ws ∧ Below w.heap.size w w' ∧ CapS u1 := by
  have r0 : Res (w.heap.size + 1) ((w.alloc (.cells #[v1, v2] 27)).alloc (.cells #[.slice none 0 0, .slice none 0 0] 27)) :=
    ⟨cell_new _ _ 27 _ (by simp) 0 _ rfl, cell_new _ _ 27 _ (by simp) 1 _ rfl, frozen_new _ _ 27 _ (by simp) 0, frozen_new _ _ 27 _ (by simp) 1, by simp⟩
  go_enter Tryz.func30, Tryz.ntmps30
  go_wp2_with fail
  go_region_held3 (fun w' => w'.cell? ⟨w.heap.size, 0, none⟩ = some v1 ∧ w'.cell? ⟨w.heap.size, 1, none⟩ = some v2)
    (first
      | (go_keep; done)
      | (go_split_ands; refine ⟨?_, ?_⟩ <;> (first | (with_reducible exact cell_later (bel_one _ _) (by assumption)) | (rw [hbA.cell ?_]; (focus assumption); (focus (first | (simp; done) | (simp; omega) | omega))) | (rw [hbB.cell ?_]; (focus assumption); (focus (first | (simp; done) | (simp; omega) | omega))) | (rw [World.cell?_setCell_other _ _ _ _ (by simp), World.cell?_setCell_other _ _ _ _ (by simp)]; assumption))))
    ((refine step_copy _ (by rfl) _ _ (by rfl) _ (by rfl) _ ss ws (by rfl) h1 h2 ?_; (first | (refine .inl ⟨rfl, ?_, ?_⟩; (focus (repeat (first | (with_reducible refine SR.dr ?_) | (with_reducible refine SR.al ?_ _) | (with_reducible refine SR.later ?_ hbB) | exact hv1))); intro ao an ac wA hNA hbA hcA; have rA : Res (w.heap.size + 1) wA := (by (refine Res.later ?_ hbA; repeat (first | (with_reducible exact r0) | (with_reducible exact rB) | (with_reducible refine Res.dr ?_) | (with_reducible refine Res.al ?_ _)))); have qA := rA.1; have pA := rA.2.1; have fA := rA.2.2.1; have gA := rA.2.2.2.1; have zA := rA.2.2.2.2) | (refine .inr ⟨rfl, ?_, ?_⟩; (focus (repeat (first | (with_reducible refine WR.dr ?_) | (with_reducible refine WR.al ?_ _) | (with_reducible refine WR.later ?_ hbA) | exact hv2))); intro bo bn bc wB hNB hbB; have rB : Res (w.heap.size + 1) wB := (by (refine Res.later ?_ hbB; repeat (first | (with_reducible exact r0) | (with_reducible exact rA) | (with_reducible refine Res.dr ?_) | (with_reducible refine Res.al ?_ _)))); have qB := rB.1; have pB := rB.2.1; have fB := rB.2.2.1; have gB := rB.2.2.2.1; have zB := rB.2.2.2.2))))
  all_goals
    have hbw1 : Below w.heap.size w wA := by
      refine Below.trans ?_ (hbA.mono (by first | (simp; done) | (simp; omega)))
      first
        | exact ((bel_two _ _ _).alloc (by simp; omega) _).drew
        | exact (((bel_two _ _ _).alloc (by simp; omega) _).alloc (by simp; omega) _).drew
    have hbw : Below w.heap.size w wB := by
      refine Below.trans ?_ (hbB.mono (by first | (simp; omega) | omega))
      first
        | exact hbw1
        | exact hbw1.alloc hbw1.size _
    have e0 : NS (w.heap.size + 1 + 1) wA (.slice ao an ac) ss := hNA.mono (by first | (simp; done) | (simp; omega))
    have e1 : NS (w.heap.size + 1 + 1) wB (.slice ao an ac) ss := by
      first
        | (with_reducible exact e0.later hbB)
        | (with_reducible exact (e0.al _).later hbB)
    have e2 : NW (w.heap.size + 1 + 1) wB (.slice bo bn bc) ws := hNB.mono (by first | (simp; omega) | omega)
    have e3 := (e1.store (b := w.heap.size + 1) (o := 0) (.slice ao an ac) (by omega)).store (b := w.heap.size + 1) (o := 1) (.slice bo bn bc) (by omega)
    have e4 := (e2.store (b := w.heap.size + 1) (o := 0) (.slice ao an ac) (by omega)).store (b := w.heap.size + 1) (o := 1) (.slice bo bn bc) (by omega)
    have e5 := (hbw.setCell (p := ⟨w.heap.size + 1, 0, none⟩) (by simp) (.slice ao an ac)).setCell (p := ⟨w.heap.size + 1, 1, none⟩) (by simp) (.slice bo bn bc)
    clear e0 e1 e2 hbw hbw1 hNA hNB hbA hbB rA rB r0
    go_wp2
    exact bodyPost_ret (v := .agg #[.slice ao an ac, .slice bo bn bc]) (by simp [results, Tryz.results30, go_sem, qB, pB]) rfl ⟨_, _, rfl, ND_of (e3.mono (by omega)) (e4.mono (by omega)), e5, hcA⟩

theorem specCopy_any (v1 v2 : Value) (ss : List ByteArray) (ws : List Wr) (w : World) (hv1 : SR w v1 ss) (hv2 : WR w v2 ws) (h1 : ss.length ≤ 1000000000000) (h2 : ws.length ≤ 1000000000000) :
    Calls Tryz.prog 30 #[.agg #[v1, v2]] w fun e w' => ∃ u1 u2, e = .returned (.agg #[u1, u2]) ∧ ND w.heap.size w' u1 u2 ss ws ∧ Below w.heap.size w w' :=
  (specCopy_cap v1 v2 ss ws w hv1 hv2 h1 h2).mono fun _ _ ⟨u1, u2, a, b, c, _⟩ => ⟨u1, u2, a, b, c⟩

end Go.Proofs.YtjclpbaiiklhcaaGreatDoor.Disk
