/- Put of the program. -/
import Derived.Test.YtddocjmjianajaaZDSpecPut
import Derived.Test.YtddocjmjianajaaZDImplHold
import Derived.Test.YtddocjmjianajaaZDZed
namespace Go.Proofs.Ytddocjmjianajaa.Disk
open Go.RowKit Go.Shelf Go.Deep

attribute [local go_sem] Oper.semAt_some

theorem make0_28 (n : Nat) (hn : n ≤ 1000000000000) (w : World) : (Instr.makeSlice 25 (.int .i64 0) (.int .i64 (n : Int))).run Try.prog w = .ok (.slice (some ⟨w.heap.size, 0, none⟩) 0 n) (w.alloc (.cells (madeCells #[.int .i64 0, .string ⟨#[]⟩] (n * 2)) 42)) := by
  obtain ⟨i, hi, hzz⟩ := Option.map_eq_some_iff.1 Try.info53
  simp only [Prod.mk.injEq] at hzz
  obtain ⟨hz, hs, hb⟩ := hzz
  have hr := run_make (P := Try.prog) w 25 42 i _ Try.under28 hi hz .i64 .i64 0 n (by omega) (by omega) (by rw [hb]; omega) (by omega)
  rw [hs, Int.toNat_natCast] at hr
  exact hr

/-- The writes that have come. -/
def lateP (pre : List OkW1) : List Wr := pre.map (fun x => x.1.2)
theorem lateP_snoc (pre : List OkW1) (x : OkW1) : lateP (pre ++ [x]) = lateP pre ++ [x.1.2] := by simp [lateP]
theorem lateP_num (ws : List Wr) (pre : List OkW1) (h : pre.map (·.1) = num ws ws.length) : lateP pre = ws := by
  have e : pre.map (fun x => x.1.2) = ws.take ws.length := by
    rw [← num_snd ws ws.length (Nat.le_refl _), ← h, List.map_map]
    rfl
  unfold lateP
  rw [e, List.take_length]

/-- The row of writes that is being filled. -/
def Fil (B b cap : Nat) (w : World) (ws : List Wr) : Prop := w.ownsRow B 42 2 (.slice (some ⟨b, 0, none⟩) ws.length cap) ws.length (lcells ws)
theorem Fil.later {B b cap : Nat} {w w' : World} {ws : List Wr} (h : Fil B b cap w ws) (hb : Below w.heap.size w w') : Fil B b cap w' ws := World.ownsRow.kept h (grown_below (row := none) hb) (.inr (by simp [Value.ownBlock]))
theorem Fil.other {B b cap : Nat} {w w' : World} {ws : List Wr} {k : Nat} (h : Fil B b cap w ws) (hg : w.grownBy w' (some k)) (hne : b ≠ k) : Fil B b cap w' ws := World.ownsRow.kept h hg (.inr (by simp [Value.ownBlock, hne]))
theorem Fil.turned {B b cap : Nat} {w w' : World} {ws : List Wr} {row : Option Nat} (h : Fil B b cap w ws) (hg : w.grownBy w' row) (hr : ∀ r, row = some r → ∃ o : Obj, w.heap[r]? = some o ∧ o.isCells = false) : Fil B b cap w' ws := by
  refine World.ownsRow.kept h hg (.inr (fun e => ?_))
  obtain ⟨o, ho, hc⟩ := hr b (by rw [← e]; rfl)
  obtain ⟨_, ⟨h', _⟩ | ⟨g, cp, cur, h', _, hh, _⟩⟩ := h
  · simp at h'
  · simp only [Value.slice.injEq, Option.some.injEq, Addr.mk.injEq, and_true, true_and] at h'
    obtain ⟨rfl, rfl⟩ := h'
    rw [hh] at ho
    cases ho
    simp [Obj.isCells] at hc
theorem Fil.nw {B b cap : Nat} {w : World} {ws : List Wr} (h : Fil B b cap w ws) : NW B w (.slice (some ⟨b, 0, none⟩) ws.length cap) ws := NO.nw (.inr h)
theorem Fil.add {B b cap xb : Nat} {w : World} {ws : List Wr} (h : Fil B b cap w ws) (y : Wr) (ty : TypeId) (hx0 : w.cell? ⟨xb, 0, none⟩ = some (.int .i64 y.1)) (hx1 : w.cell? ⟨xb, 1, none⟩ = some (.string y.2)) (hc : ws.length < cap) :
    ∃ w', (Builtin.append_ #[25, 25] ty #[.slice (some ⟨b, 0, none⟩) ws.length cap, .slice (some ⟨xb, 0, none⟩) 1 1]).run Try.prog w = .ok (.slice (some ⟨b, 0, none⟩) (ws.length + 1) cap) w' ∧ Fil B b cap w' (ws ++ [y]) ∧ w.grownBy w' (some b) := by
  obtain ⟨i, hi, hzz⟩ := Option.map_eq_some_iff.1 Try.info53
  simp only [Prod.mk.injEq] at hzz
  obtain ⟨hz, hs, hb⟩ := hzz
  have hnews : ∀ (j : Nat) (u : Value), [Value.int .i64 y.1, .string y.2][j]? = some u → w.cell? ((⟨xb, 0, none⟩ : Addr).add j) = some u := by
    intro j u hu
    rw [Addr.add_lit, Nat.zero_add]
    match j, hu with
    | 0, hu => simp at hu; rw [← hu]; exact hx0
    | 1, hu => simp at hu; rw [← hu]; exact hx1
    | j + 2, hu => simp at hu
  have hone : ∀ u ∈ [Value.int .i64 y.1, .string y.2], u.oneCell' = true := by
    intro u hu
    simp at hu
    rcases hu with rfl | rfl <;> rfl
  obtain ⟨w', hr, ho, hg⟩ := run_append_fits (P := Try.prog) w B 25 ty 42 i 2 Try.under28 hi hs b ws.length cap (lcells ws) h ⟨xb, 0, none⟩ 1 1 _ rfl hnews hone (by omega)
  rw [← lcells_snoc] at ho
  refine ⟨w', hr, ?_, hg⟩
  unfold Fil
  rw [List.length_append]
  exact ho

theorem Fil.cells {B b cap : Nat} {w : World} {ws : List Wr} (h : Fil B b cap w ws) (o : Obj) (ho : w.heap[b]? = some o) : o.isCells = true := by
  obtain ⟨_, ⟨h', _⟩ | ⟨g, cp, cur, h', _, hh, _⟩⟩ := h
  · simp at h'
  · simp only [Value.slice.injEq, Option.some.injEq, Addr.mk.injEq, and_true, true_and] at h'
    obtain ⟨rfl, rfl⟩ := h'
    rw [hh] at ho
    cases ho
    rfl

theorem exec_app {o : Oper} {a : Act} {w w' : World} {u : Value} (s x : Operand) (ho : o.op = .call { callee := .builtin .append, args := #[s, x], argTypes := #[25, 25] }) (v y : Value) (hs : a.eval s = v) (hx : a.eval x = y)
    (hr : (Builtin.append_ #[25, 25] o.type #[v, y]).run Try.prog w = .ok u w') : (execOp a.eval o).run Try.prog w = .ok (.value u) w' := by
  unfold execOp
  simp only [ho, resolve, invoke, builtin, Sem.run_bind, Sem.run_pure, Result.andThen_ok, List.map_toArray, List.map_cons, List.map_nil, hs, hx, hr]

/-- A box of two cells as a block. -/
def Blk (w : World) (b : Nat) (c : Array Value) (t : TypeId) : Prop := w.heap[b]? = some (.cells c t (0, 0))
theorem Blk.lt {w : World} {b : Nat} {c : Array Value} {t : TypeId} (h : Blk w b c t) : b < w.heap.size := (Array.getElem?_eq_some_iff.1 h).1
theorem Blk.later {w w' : World} {b : Nat} {c : Array Value} {t : TypeId} (h : Blk w b c t) (hb : Below w.heap.size w w') : Blk w' b c t := (hb.block b h.lt).trans h
theorem Blk.other {w w' : World} {b k : Nat} {c : Array Value} {t : TypeId} (h : Blk w b c t) (hg : w.grownBy w' (some k)) (hne : b ≠ k) : Blk w' b c t := (hg.block b h.lt (by simp [hne])).trans h
theorem Blk.cell {w : World} {b : Nat} {c : Array Value} {t : TypeId} (h : Blk w b c t) (i : Nat) : w.cell? ⟨b, i, none⟩ = c[i]? := by
  have h' : w.heap[b]? = some (.cells c t (0, 0)) := h
  simp [World.cell?, h']
theorem Blk.frozen {w : World} {b : Nat} {c : Array Value} {t : TypeId} (h : Blk w b c t) (i : Nat) : w.frozen? ⟨b, i, none⟩ = false := by
  have h' : w.heap[b]? = some (.cells c t (0, 0)) := h
  simp [World.frozen?, h']
theorem Blk.res {w : World} {b : Nat} (h : Blk w b #[.slice none 0 0, .slice none 0 0] 27) : Res b w := ⟨by rw [h.cell]; rfl, by rw [h.cell]; rfl, h.frozen 0, h.frozen 1, h.lt⟩

set_option maxRecDepth 100000 in
set_option maxHeartbeats 4000000 in
theorem implPut_any (v1 v2 : Value) (ss : List ByteArray) (ws : List Wr) (sec : Int) (txt : ByteArray) (w : World) (hv1 : SR w v1 ss) (hv2 : WR w v2 ws) (h1 : ss.length ≤ 10000000000000) (h2 : ws.length ≤ 10000000000000) :
    Calls Try.prog 7 #[.agg #[v1, v2], .int .i64 sec, .string txt] w fun e w' => ∃ u1 u2, e = .returned (.tuple #[.agg #[u1, u2], .bool (putOk ss ws sec txt)]) ∧ ND w.heap.size w' u1 u2 (putS ss ws sec txt) (putW ss ws sec txt) ∧ Below w.heap.size w w' := by
  have hb0 := bel_two w (.cells #[v1, v2] 27) (.cells #[.slice none 0 0, .slice none 0 0] 27)
  refine (callsIn_wide (n := 9)).1 ?_
  refine callsIn_of_wp_marks Try.func7 rfl trivial ?_ rfl
  simp only [Try.ntmps7, List.size_toArray, List.length_cons, List.length_nil, Nat.reduceAdd, Nat.reduceSub, Array.replicate_succ, Array.replicate_zero, List.push_toArray, List.append_toArray, List.nil_append, List.cons_append]
  gi_wp2_with (fail)
  refine ⟨trivial, (callsIn_wide.2 (implDiskOk_any _ _ ss ws _ (hv1.later hb0) (hv2.later hb0) h1 h2)).mono ?_⟩
  rintro e w1 ⟨rfl, hb1⟩
  have hbw1 : Below w.heap.size w w1 := hb0.trans (hb1.mono (by simp; omega))
  have D1 : Blk w1 w.heap.size #[v1, v2] 27 := Blk.later (((bel_one _ _).block w.heap.size (by simp)).trans (heap_alloc_new w _)) hb1
  have R1 : Blk w1 (w.heap.size + 1) #[.slice none 0 0, .slice none 0 0] 27 := Blk.later (by have h := heap_alloc_new (w.alloc (.cells #[v1, v2] 27)) (.cells #[.slice none 0 0, .slice none 0 0] 27); rw [World.size_alloc] at h; exact h) hb1
  have r1 := R1.res
  have c0 : w1.cell? ⟨w.heap.size, 0, none⟩ = some v1 := by rw [D1.cell]; rfl
  have c1 : w1.cell? ⟨w.heap.size, 1, none⟩ = some v2 := by rw [D1.cell]; rfl
  have q0 := r1.1
  have q1 := r1.2.1
  have f0 := r1.2.2.1
  have f1 := r1.2.2.2.1
  have e5 := (hbw1.setCell (p := ⟨w.heap.size + 1, 0, none⟩) (by simp) (.slice none 0 0)).setCell (p := ⟨w.heap.size + 1, 1, none⟩) (by simp) (.slice none 0 0)
  have hz1 : w.heap.size + 1 < w1.heap.size := r1.2.2.2.2
  have hz0 : w.heap.size < w1.heap.size := by omega
  have HD1 : Hid (Blk w1 w.heap.size #[v1, v2] 27) := D1
  have HR1 : Hid (Blk w1 (w.heap.size + 1) #[.slice none 0 0, .slice none 0 0] 27) := R1
  clear D1 R1
  cases hok : okD ss ws
  · have HP : Hid (putOk ss ws sec txt = false) := putOk_false (.inl hok)
    clear hok
    gi_wp2
    refine ⟨trivial, ?_⟩
    gi_wp2
    refine ⟨trivial, ?_⟩
    gi_wp2
    exact ⟨.tuple #[.agg #[.slice none 0 0, .slice none 0 0], .bool false], by simp [results, Try.f7, go_sem, q0, q1], _, _, by rw [HP.out], by rw [putS_false HP.out, putW_false HP.out]; exact nd_zero _ _, e5⟩
  have HOK : Hid (okD ss ws = true) := hok
  clear hok
  gi_wp2_with (fail)
  refine ⟨trivial, (callsIn_wide.2 (isSector_any _ _)).mono ?_⟩
  rintro e w' ⟨rfl, hw'⟩
  rw [hw']
  clear hw' w'
  cases hon : okN sec
  · have HP : Hid (putOk ss ws sec txt = false) := putOk_false (.inr (.inl (by unfold okN at hon; unfold okW; simp at hon ⊢; omega)))
    gi_wp2
    refine ⟨trivial, ?_⟩
    gi_wp2
    exact ⟨.tuple #[.agg #[.slice none 0 0, .slice none 0 0], .bool false], by simp [results, Try.f7, go_sem, q0, q1], _, _, by rw [HP.out], by rw [putS_false HP.out, putW_false HP.out]; exact nd_zero _ _, e5⟩
  gi_wp2_with (fail)
  refine ⟨trivial, (callsIn_wide.2 (fitsSector_any _ _)).mono ?_⟩
  rintro e w' ⟨rfl, hw'⟩
  rw [hw']
  clear hw' w'
  cases hos : okS txt
  · have HP : Hid (putOk ss ws sec txt = false) := putOk_false (.inr (.inl (by unfold okS at hos; unfold okW; simp at hos ⊢; omega)))
    gi_wp2
    exact ⟨.tuple #[.agg #[.slice none 0 0, .slice none 0 0], .bool false], by simp [results, Try.f7, go_sem, q0, q1], _, _, by rw [HP.out], by rw [putS_false HP.out, putW_false HP.out]; exact nd_zero _ _, e5⟩
  have HOW : Hid (okW (sec, txt) = true) := (by unfold okN at hon; unfold okS at hos; unfold okW; simp at hon hos ⊢; omega : okW (sec, txt) = true)
  have hts : txt.size ≤ 256 := (okW_range HOW.out).2.2
  clear hon hos
  have hv2' := hv2
  obtain ⟨bo, cbp, rfl, hu⟩ := hv2
  clear hu
  by_cases hlen : ws.length = 200
  · have HP : Hid (putOk ss ws sec txt = false) := putOk_false (.inr (.inr hlen))
    have te : ((ws.length : Int) == 200) = true := by simp; omega
    clear hlen
    gi_wp2
    exact ⟨.tuple #[.agg #[.slice none 0 0, .slice none 0 0], .bool false], by simp [results, Try.f7, go_sem, q0, q1], _, _, by rw [HP.out], by rw [putS_false HP.out, putW_false HP.out]; exact nd_zero _ _, e5⟩
  have HP : Hid (putOk ss ws sec txt = true) := putOk_true HOK.out HOW.out hlen
  have te : ((ws.length : Int) == 200) = false := by simp; omega
  obtain ⟨l64, l200, hsz, hall⟩ := okD_all HOK.out
  have HALL : Hid (∀ k, k < ws.length → okW (ws.getD k wr0) = true) := hall
  have HSZ : Hid (∀ k, k < ss.length → (ss.getD k ByteArray.empty).size ≤ 256) := hsz
  have hmk : ∀ W : World, (Instr.makeSlice 25 (.int .i64 0) (.int .i64 ((ws.length : Int) + 1))).run Try.prog W = .ok (.slice (some ⟨W.heap.size, 0, none⟩) 0 (ws.length + 1)) (W.alloc (.cells (madeCells #[.int .i64 0, .string ⟨#[]⟩] ((ws.length + 1) * 2)) 42)) := fun W => by
    have h := make0_28 (ws.length + 1) (by omega) W
    rw [Int.natCast_add] at h
    exact h
  clear hlen hall hsz e5
  gi_wp2_with (fail)
  refine ⟨trivial, (inOrder_in Fence.wide _ trivial rfl _ _ _ _).mono ?_⟩
  rintro e w3 ⟨rfl, rfl⟩
  gi_wp2_with (fail)
  obtain ⟨W0, hW0⟩ : ∃ W0, (((w1.alloc (.cells (madeCells #[.int .i64 0, .string ⟨#[]⟩] ((ws.length + 1) * 2)) 42)).alloc (.cells #[.slice (some ⟨w1.heap.size, 0, none⟩) 0 (ws.length + 1)] 25)).alloc (.cells #[.slice bo ws.length cbp] 25)) = W0 := ⟨_, rfl⟩
  have hB0 : Below w.heap.size w W0 := by rw [← hW0]; exact ((hbw1.alloc hbw1.size _).alloc (Nat.le_trans hbw1.size (by simp)) _).alloc (Nat.le_trans hbw1.size (by simp; omega)) _
  have F0 : Fil w.heap.size w1.heap.size (ws.length + 1) W0 [] := by
    have h := World.ownsRow_made (base := w.heap.size) (e := 42) (size := 2) w1 (madeCells #[.int .i64 0, .string ⟨#[]⟩] ((ws.length + 1) * 2)) (ws.length + 1) hbw1.size (by unfold maxLen; omega) (by rw [size_madeCells])
    rw [← hW0]
    exact (h.alloc _).alloc _
  have bT : Boxed W0 (w1.heap.size + 1) 25 (.slice (some ⟨w1.heap.size, 0, none⟩) 0 (ws.length + 1)) := by
    have h := (Boxed.new (w1.alloc (.cells (madeCells #[.int .i64 0, .string ⟨#[]⟩] ((ws.length + 1) * 2)) 42)) 25 (.slice (some ⟨w1.heap.size, 0, none⟩) 0 (ws.length + 1))).alloc (.cells #[.slice bo ws.length cbp] 25)
    rw [World.size_alloc] at h
    rw [← hW0]
    exact h
  have hBel : Below w1.heap.size w1 W0 := by rw [← hW0]; exact (bel_two _ _ _).alloc (by simp; omega) _
  have D0 : Blk W0 w.heap.size #[v1, .slice bo ws.length cbp] 27 := HD1.out.later hBel
  have R0 : Blk W0 (w.heap.size + 1) #[.slice none 0 0, .slice none 0 0] 27 := HR1.out.later hBel
  have cB : W0.cell? ⟨w1.heap.size + 1 + 1, 0, none⟩ = some (.slice bo ws.length cbp) := by
    rw [← hW0]
    exact cell_new _ #[.slice bo ws.length cbp] 25 _ (by simp) 0 _ rfl
  have hsz0 : W0.heap.size = w1.heap.size + 1 + 1 + 1 := by rw [← hW0]; simp
  rw [hW0]
  clear hW0 hb0 c0 c1 q0 q1 f0 f1 r1 hmk
  have hmx : Try.prog.follows .mixedOrders = true := by kernel_rfl
  refine wpIn_rangeFunc_ownH (F := Fence.wide) (n := 9) rfl (by omega) (gf := 38) (lb := #[.pointer (some ⟨w1.heap.size + 1 + 1, 0, none⟩)]) rfl trivial (enters_of Try.func38 (by kernel_rfl) rfl)
    (inOrderP_stops Fence.wide (9 - 1) trivial rfl (by omega) (w1.heap.size + 1 + 1) w _ ws hv2' h2 HALL.out W0 hB0 cB) belowK_t (belowK_b (by omega)) (Below.refl _ _) (fun _ => rfl)
    (fun pre W => (Fil w.heap.size w1.heap.size (ws.length + 1) W (lateP pre) ∧ Boxed W (w1.heap.size + 1) 25 (.slice (some ⟨w1.heap.size, 0, none⟩) (lateP pre).length (ws.length + 1)) ∧ Blk W w.heap.size #[v1, .slice bo ws.length cbp] 27 ∧ Blk W (w.heap.size + 1) #[.slice none 0 0, .slice none 0 0] 27) ∧ Below w.heap.size w W)
    (fun _ _ _ => False)
    (OwnFrom.and (fun s X Y row hs hg hr => ⟨hs.1.turned hg (fun r e => (hr r e).2), boxed_own (w1.heap.size + 1) 25 (fun (pre : List OkW1) => Value.slice (some ⟨w1.heap.size, 0, none⟩) (lateP pre).length (ws.length + 1)) s X Y row hs.2.1 hg (fun r e => (hr r e).2), cells_own hs.2.2.1 hg (fun r e => (hr r e).2), cells_own hs.2.2.2 hg (fun r e => (hr r e).2)⟩) (ownFrom_below (Nat.le_refl _) (by omega)))
    (fun _ _ _ _ _ hs _ _ => hs)
    ⟨⟨F0, bT, D0, R0⟩, hB0⟩
    (fun x a' W => ∃ Bx, w1.heap.size + 1 < Bx ∧ W.heap[Bx]? = some (.cells #[.int .i64 x.1.2.1, .string x.1.2.2] 42 (0, 0)) ∧ a' = { tmps := #[Value.agg #[v1, Value.slice bo ws.length cbp], Value.int IntKind.i64 sec, Value.string txt, Value.pointer (some { block := w.heap.size, off := 0 }), undef, undef, Value.pointer (some { block := w.heap.size + 1, off := 0 }), Value.bool false, Value.pointer (some { block := w1.heap.size + 1, off := 0 }), undef, Value.pointer (some ⟨Bx, 0, none⟩), Value.agg #[v1, Value.slice bo ws.length cbp], Value.bool true, Value.bool false, Value.bool false, Value.int IntKind.i64 sec, Value.bool true, Value.bool false, Value.bool false, Value.bool false, Value.string txt, Value.bool true, Value.bool false, Value.bool false, Value.bool false, Value.pointer (some { block := w.heap.size, off := 1 }), Value.slice bo ws.length cbp, Value.int IntKind.i64 ↑ws.length, Value.bool false, Value.bool false, undef, Value.pointer (some { block := w.heap.size, off := 1 }), Value.slice bo ws.length cbp, Value.int IntKind.i64 ↑ws.length, Value.int IntKind.i64 (↑ws.length + 1), Value.slice (some { block := w1.heap.size, off := 0 }) 0 (ws.length + 1), Value.pointer (some { block := w.heap.size, off := 1 }), Value.slice bo ws.length cbp, Value.func (Fn.func 38) #[] #[Value.pointer (some { block := w1.heap.size + 1 + 1, off := 0 })], .int .i64 x.1.1, .agg #[.int .i64 x.1.2.1, .string x.1.2.2], undef, undef, undef, undef, undef, undef, undef, undef, undef, undef, undef, undef, undef, undef, undef, undef, undef, undef, undef, undef, undef], defers := [] })
    (fun x a' _ X Y row hs hg hr => by obtain ⟨Bx, h1, h2, h3⟩ := hs; exact ⟨Bx, h1, cells_own h2 hg (fun r e => (hr r e).2), h3⟩)
    ?assign ?body ?done ?stop
  case assign =>
    rintro l pre x W K ⟨⟨hF, bT1, D, R⟩, hB1⟩ hK
    dsimp only [encP, enc2]
    gi_wp2
    exact hK _ _ ((KeepsOthers.alloc _ _).from _) ((Below.refl _ W).alloc hB1.size _) ⟨⟨hF.later (bel_one _ _), bT1.alloc _, D.later (bel_one _ _), R.later (bel_one _ _)⟩, hB1.alloc hB1.size _⟩ ⟨W.heap.size, bT1.lt, heap_alloc_new W _, rfl⟩
  case body =>
    rintro l pre ⟨⟨i, s1, s2⟩, hokx⟩ a' W hl ⟨lr, hlr⟩ ⟨⟨hF, bT1, D, R⟩, hB1⟩ ⟨Bx, hBx, bX, rfl⟩ hlt
    dsimp only at bX ⊢
    have xs := (okW_range hokx).2.2
    dsimp only at xs
    have cX0 : W.cell? ⟨Bx, 0, none⟩ = some (.int .i64 s1) := by simp [World.cell?, bX]
    have cX1 : W.cell? ⟨Bx, 1, none⟩ = some (.string s2) := by simp [World.cell?, bX]
    have cT := bT1.cell
    have HF : Hid (Fil w.heap.size w1.heap.size (ws.length + 1) W (lateP pre)) := hF
    have HD : Hid (Blk W w.heap.size #[v1, .slice bo ws.length cbp] 27) := D
    have HR : Hid (Blk W (w.heap.size + 1) #[.slice none 0 0, .slice none 0 0] 27) := R
    have HBX : Hid (W.heap[Bx]? = some (.cells #[.int .i64 s1, .string s2] 42 (0, 0))) := bX
    have hroom : (lateP pre).length < ws.length + 1 := by unfold lateP; rw [List.length_map]; omega
    have HROOM : Hid ((lateP pre).length < ws.length + 1) := hroom
    have hw1W : w1.heap.size + 1 < W.heap.size := bT1.lt
    clear bX hF D R hroom
    gi_wp2
    refine z_round 9 (fun W' => W'.cell? ⟨w1.heap.size + 1, 0, none⟩ = some (.slice (some ⟨w1.heap.size, 0, none⟩) (lateP pre).length (ws.length + 1)) ∧ W'.cell? ⟨Bx, 0, none⟩ = some (.int .i64 s1) ∧ W'.cell? ⟨Bx, 1, none⟩ = some (.string s2)) hmx (by kernel_rfl) ⟨cT, cX0, cX1⟩ (fun hHeld => ?_)
    refine z_take 0 41 rfl rfl (by kernel_rfl) (by kernel_rfl) (by kernel_rfl) (by kernel_rfl) (by rfl) hHeld (fun W' hSw => (by
      obtain ⟨s1', s2', s3'⟩ := hSw
      go_simp
      with_reducible rfl)) ?_
    simp only [List.setIfInBounds_toArray, List.set_cons_zero, List.set_cons_succ]
    refine z_take 1 42 rfl rfl (by kernel_rfl) (by kernel_rfl) (by kernel_rfl) (by kernel_rfl) (by rfl) hHeld (fun W' hSw => (by
      obtain ⟨s1', s2', s3'⟩ := hSw
      go_simp
      with_reducible rfl)) ?_
    simp only [List.setIfInBounds_toArray, List.set_cons_zero, List.set_cons_succ]
    refine z_take 2 43 rfl rfl (by kernel_rfl) (by kernel_rfl) (by kernel_rfl) (by kernel_rfl) (by rfl) hHeld (fun W' hSw => (by
      obtain ⟨s1', s2', s3'⟩ := hSw
      go_simp
      with_reducible rfl)) ?_
    simp only [List.setIfInBounds_toArray, List.set_cons_zero, List.set_cons_succ]
    refine z_take 3 44 rfl rfl (by kernel_rfl) (by kernel_rfl) (by kernel_rfl) (by kernel_rfl) (by rfl) hHeld (fun W' hSw => (by
      obtain ⟨s1', s2', s3'⟩ := hSw
      go_simp
      with_reducible rfl)) ?_
    simp only [List.setIfInBounds_toArray, List.set_cons_zero, List.set_cons_succ]
    refine z_take 4 45 rfl rfl (by kernel_rfl) (by kernel_rfl) (by kernel_rfl) (by kernel_rfl) (by rfl) hHeld (fun W' hSw => (by
      obtain ⟨s1', s2', s3'⟩ := hSw
      go_simp
      with_reducible rfl)) ?_
    simp only [List.setIfInBounds_toArray, List.set_cons_zero, List.set_cons_succ]
    refine z_call 5 46 rfl rfl (by kernel_rfl) (by rfl) (f := 25) (args := #[.string s2]) (w0 := W.drew) (by
      go_simp) ?_
    refine (copyText_any _ _ (by omega)).mono ?_
    rintro e w5 ⟨rfl, hb5⟩
    have B5 : Below W.heap.size W w5 := (Below.refl W.heap.size W).drew.trans hb5
    have m3 := cell_later hb5 hHeld.1
    have m4 := cell_later hb5 hHeld.2.1
    have m5 := cell_later hb5 hHeld.2.2
    refine ⟨_, rfl, .inr ⟨m3, m4, m5⟩, ?_⟩
    simp only [List.setIfInBounds_toArray, List.set_cons_zero, List.set_cons_succ]
    refine z_run 6 47 rfl rfl (by kernel_rfl) (by rfl) (w' := w5) (by
      go_simp
      with_reducible rfl) (.inr ⟨m3, m4, m5⟩) ?_
    simp only [List.setIfInBounds_toArray, List.set_cons_zero, List.set_cons_succ]
    have hb6 := bel_one w5 (.cells #[.int .i64 s1, .string s2] 42)
    have n3 := cell_later hb6 m3
    have n4 := cell_later hb6 m4
    have n5 := cell_later hb6 m5
    refine z_run 7 48 rfl rfl (by kernel_rfl) (by rfl) (w' := w5.alloc (.cells #[.int .i64 s1, .string s2] 42)) (v := .slice (some ⟨w5.heap.size, 0, none⟩) 1 1) (by
      go_simp) (.inr ⟨n3, n4, n5⟩) ?_
    simp only [List.setIfInBounds_toArray, List.set_cons_zero, List.set_cons_succ]
    have F6 := (HF.out.later B5).later hb6
    obtain ⟨w7, hr7, F7, hg7⟩ := F6.add (s1, s2) 25 (cell_new w5 #[.int .i64 s1, .string s2] 42 _ rfl 0 _ rfl) (cell_new w5 #[.int .i64 s1, .string s2] 42 _ rfl 1 _ rfl) HROOM.out
    have hTb : some (w1.heap.size + 1) ≠ some w1.heap.size := by simp
    have hXb : some Bx ≠ some w1.heap.size := by simp; omega
    have k3 := hg7.cell n3 hTb
    have k4 := hg7.cell n4 hXb
    have k5 := hg7.cell n5 hXb
    have bT7 : Boxed w7 (w1.heap.size + 1) 25 (.slice (some ⟨w1.heap.size, 0, none⟩) (lateP pre).length (ws.length + 1)) := ((bT1.kept (grown_below (row := none) B5) (by simp)).alloc _).kept hg7 hTb
    have f7 := bT7.frozen
    refine z_run 8 49 rfl rfl (by kernel_rfl) (by rfl) (exec_app _ _ rfl _ _ rfl rfl hr7) (.inr ⟨k3, k4, k5⟩) ?_
    simp only [List.setIfInBounds_toArray, List.set_cons_zero, List.set_cons_succ]
    refine z_skip 9 rfl rfl (by kernel_rfl) (by rfl) (w' := w7.setCell ⟨w1.heap.size + 1, 0, none⟩ (.slice (some ⟨w1.heap.size, 0, none⟩) ((lateP pre).length + 1) (ws.length + 1))) (by
      go_simp) (.inl rfl) ?_
    refine z_done (by kernel_rfl) ?_ _
    have e1 : (lateP pre ++ [(s1, s2)]).length = (lateP pre).length + 1 := by simp
    have NF : Fil w.heap.size w1.heap.size (ws.length + 1) (w7.setCell ⟨w1.heap.size + 1, 0, none⟩ (.slice (some ⟨w1.heap.size, 0, none⟩) ((lateP pre).length + 1) (ws.length + 1))) (lateP (pre ++ [⟨(i, (s1, s2)), hokx⟩])) := by rw [lateP_snoc]; exact F7.other (grown_set w7 _ 0 _) (by omega)
    have NT : Boxed (w7.setCell ⟨w1.heap.size + 1, 0, none⟩ (.slice (some ⟨w1.heap.size, 0, none⟩) ((lateP pre).length + 1) (ws.length + 1))) (w1.heap.size + 1) 25 (.slice (some ⟨w1.heap.size, 0, none⟩) (lateP (pre ++ [⟨(i, (s1, s2)), hokx⟩])).length (ws.length + 1)) := by rw [lateP_snoc, e1]; exact bT7.set _
    have NDb := (((HD.out.later B5).later hb6).other hg7 (by omega)).other (grown_set w7 (w1.heap.size + 1) 0 (.slice (some ⟨w1.heap.size, 0, none⟩) ((lateP pre).length + 1) (ws.length + 1))) (by omega)
    have NRb := (((HR.out.later B5).later hb6).other hg7 (by omega)).other (grown_set w7 (w1.heap.size + 1) 0 (.slice (some ⟨w1.heap.size, 0, none⟩) ((lateP pre).length + 1) (ws.length + 1))) (by omega)
    have KO := ((((KeepsOthers.of_grownBy (grown_below (row := none) B5) (fun j o e => by cases e)).trans (KeepsOthers.alloc w5 (.cells #[.int .i64 s1, .string s2] 42))).trans (KeepsOthers.of_grownBy hg7 (fun j o e ho => by cases e; exact F6.cells o ho))).trans (KeepsOthers.setCell w7 ⟨w1.heap.size + 1, 0, none⟩ (.slice (some ⟨w1.heap.size, 0, none⟩) ((lateP pre).length + 1) (ws.length + 1)))).from W0.heap.size
    have g5 := B5.mono hB1.size
    have s5 : w.heap.size ≤ w5.heap.size := Nat.le_trans hB1.size B5.size
    have GB := ((g5.alloc s5 (.cells #[.int .i64 s1, .string s2] 42)).grown hg7 (by simp; omega) (fun k e => by cases e; omega)).setCell (p := ⟨w1.heap.size + 1, 0, none⟩) (by simp; omega) (.slice (some ⟨w1.heap.size, 0, none⟩) ((lateP pre).length + 1) (ws.length + 1))
    clear hr7 F6 F7 hg7 bT7 f7 k3 k4 k5 n3 n4 n5 m3 m4 m5 hb5 hb6 B5 hHeld g5
    gi_wp2
    exact ⟨KO, GB, ⟨⟨NF, NT, NDb, NRb⟩, hB1.trans GB⟩⟩
  case done =>
    rintro D ys W hD hys ⟨⟨hF, bT1, D0', R0'⟩, hB1⟩ hK
    rw [lateP_num ws ys hys] at hF bT1
    have cT := bT1.cell
    have HF : Hid (Fil w.heap.size w1.heap.size (ws.length + 1) W ws) := hF
    have HD : Hid (Blk W w.heap.size #[v1, .slice bo ws.length cbp] 27) := D0'
    have HR : Hid (Blk W (w.heap.size + 1) #[.slice none 0 0, .slice none 0 0] 27) := R0'
    have hw1W : w1.heap.size + 1 < W.heap.size := bT1.lt
    clear hF D0' R0'
    gi_wp2
    refine z_wide 7 (fun W' => W'.cell? ⟨w1.heap.size + 1, 0, none⟩ = some (.slice (some ⟨w1.heap.size, 0, none⟩) ws.length (ws.length + 1))) hmx cT (fun hHeld => ?_)
    refine z_take 0 50 rfl rfl (by kernel_rfl) (by kernel_rfl) (by kernel_rfl) (by kernel_rfl) (by rfl) hHeld (fun W' hSw => (by
      (try dsimp only at hSw)
      go_simp
      with_reducible rfl)) ?_
    simp only [List.setIfInBounds_toArray, List.set_cons_zero, List.set_cons_succ]
    refine z_take 1 51 rfl rfl (by kernel_rfl) (by kernel_rfl) (by kernel_rfl) (by kernel_rfl) (by rfl) hHeld (fun W' hSw => (by
      (try dsimp only at hSw)
      go_simp
      with_reducible rfl)) ?_
    simp only [List.setIfInBounds_toArray, List.set_cons_zero, List.set_cons_succ]
    refine z_take 2 52 rfl rfl (by kernel_rfl) (by kernel_rfl) (by kernel_rfl) (by kernel_rfl) (by rfl) hHeld (fun W' hSw => (by
      (try dsimp only at hSw)
      go_simp
      with_reducible rfl)) ?_
    simp only [List.setIfInBounds_toArray, List.set_cons_zero, List.set_cons_succ]
    refine z_call 3 53 rfl rfl (by kernel_rfl) (by rfl) (f := 25) (args := #[.string txt]) (w0 := W.drew) (by
      go_simp) ?_
    refine (copyText_any _ _ (by omega)).mono ?_
    rintro e w5 ⟨rfl, hb5⟩
    have B5 : Below W.heap.size W w5 := (Below.refl W.heap.size W).drew.trans hb5
    have m3 := cell_later hb5 hHeld
    refine ⟨_, rfl, .inr m3, ?_⟩
    simp only [List.setIfInBounds_toArray, List.set_cons_zero, List.set_cons_succ]
    refine z_run 4 54 rfl rfl (by kernel_rfl) (by rfl) (w' := w5) (by
      go_simp
      with_reducible rfl) (.inr m3) ?_
    simp only [List.setIfInBounds_toArray, List.set_cons_zero, List.set_cons_succ]
    have hb6 := bel_one w5 (.cells #[.int .i64 sec, .string txt] 42)
    have n3 := cell_later hb6 m3
    refine z_run 5 55 rfl rfl (by kernel_rfl) (by rfl) (w' := w5.alloc (.cells #[.int .i64 sec, .string txt] 42)) (v := .slice (some ⟨w5.heap.size, 0, none⟩) 1 1) (by
      go_simp) (.inr n3) ?_
    simp only [List.setIfInBounds_toArray, List.set_cons_zero, List.set_cons_succ]
    have F6 := (HF.out.later B5).later hb6
    obtain ⟨w7, hr7, F7, hg7⟩ := F6.add (sec, txt) 25 (cell_new w5 #[.int .i64 sec, .string txt] 42 _ rfl 0 _ rfl) (cell_new w5 #[.int .i64 sec, .string txt] 42 _ rfl 1 _ rfl) (by omega)
    have hTb : some (w1.heap.size + 1) ≠ some w1.heap.size := by simp
    have k3 := hg7.cell n3 hTb
    have bT7 : Boxed w7 (w1.heap.size + 1) 25 (.slice (some ⟨w1.heap.size, 0, none⟩) ws.length (ws.length + 1)) := ((bT1.kept (grown_below (row := none) B5) (by simp)).alloc _).kept hg7 hTb
    have f7 := bT7.frozen
    refine z_run 6 56 rfl rfl (by kernel_rfl) (by rfl) (exec_app _ _ rfl _ _ rfl rfl hr7) (.inr k3) ?_
    simp only [List.setIfInBounds_toArray, List.set_cons_zero, List.set_cons_succ]
    refine z_skip 7 rfl rfl (by kernel_rfl) (by rfl) (w' := w7.setCell ⟨w1.heap.size + 1, 0, none⟩ (.slice (some ⟨w1.heap.size, 0, none⟩) (ws.length + 1) (ws.length + 1))) (by
      go_simp) (.inl rfl) ?_
    refine z_done (by kernel_rfl) ?_ _
    obtain ⟨W8, hW8⟩ : ∃ W8, w7.setCell ⟨w1.heap.size + 1, 0, none⟩ (.slice (some ⟨w1.heap.size, 0, none⟩) (ws.length + 1) (ws.length + 1)) = W8 := ⟨_, rfl⟩
    have F8 : Fil w.heap.size w1.heap.size (ws.length + 1) W8 (ws ++ [(sec, txt)]) := by rw [← hW8]; exact F7.other (grown_set w7 _ 0 _) (by omega)
    have T8 : Boxed W8 (w1.heap.size + 1) 25 (.slice (some ⟨w1.heap.size, 0, none⟩) (ws.length + 1) (ws.length + 1)) := by rw [← hW8]; exact bT7.set _
    have D8 : Blk W8 w.heap.size #[v1, .slice bo ws.length cbp] 27 := by rw [← hW8]; exact (((HD.out.later B5).later hb6).other hg7 (by omega)).other (grown_set w7 (w1.heap.size + 1) 0 _) (by omega)
    have R8 : Blk W8 (w.heap.size + 1) #[.slice none 0 0, .slice none 0 0] 27 := by rw [← hW8]; exact (((HR.out.later B5).later hb6).other hg7 (by omega)).other (grown_set w7 (w1.heap.size + 1) 0 _) (by omega)
    have KO : KeepsOthers W W8 := by rw [← hW8]; exact (((KeepsOthers.of_grownBy (grown_below (row := none) B5) (fun j o e => by cases e)).trans (KeepsOthers.alloc w5 (.cells #[.int .i64 sec, .string txt] 42))).trans (KeepsOthers.of_grownBy hg7 (fun j o e ho => by cases e; exact F6.cells o ho))).trans (KeepsOthers.setCell w7 ⟨w1.heap.size + 1, 0, none⟩ _)
    have s5 : w.heap.size ≤ w5.heap.size := Nat.le_trans hB1.size B5.size
    have GB : Below w.heap.size W W8 := by rw [← hW8]; exact (((B5.mono hB1.size).alloc s5 (.cells #[.int .i64 sec, .string txt] 42)).grown hg7 (by simp; omega) (fun k e => by cases e; omega)).setCell (p := ⟨w1.heap.size + 1, 0, none⟩) (by simp; omega) _
    rw [hW8]
    have hK8 := KO.same D _ hK rfl
    have hB8 := hB1.trans GB
    clear hW8 hr7 F6 F7 hg7 bT7 f7 k3 n3 m3 hb5 hb6 B5 hHeld cT bT1 hK KO GB HF HD HR
    gi_wp2
    have c0 : W8.cell? ⟨w.heap.size, 0, none⟩ = some v1 := by rw [D8.cell]; rfl
    have cT := T8.cell
    refine z_wide 5 (fun W' => W'.cell? ⟨w.heap.size, 0, none⟩ = some v1 ∧ W'.cell? ⟨w1.heap.size + 1, 0, none⟩ = some (.slice (some ⟨w1.heap.size, 0, none⟩) (ws.length + 1) (ws.length + 1))) hmx ⟨c0, cT⟩ (fun hHeld => ?_)
    refine z_take 0 57 rfl rfl (by kernel_rfl) (by kernel_rfl) (by kernel_rfl) (by kernel_rfl) (by rfl) hHeld (fun W' hSw => (by
      obtain ⟨s1', s2'⟩ := hSw
      go_simp
      with_reducible rfl)) ?_
    simp only [List.setIfInBounds_toArray, List.set_cons_zero, List.set_cons_succ]
    refine z_take 1 58 rfl rfl (by kernel_rfl) (by kernel_rfl) (by kernel_rfl) (by kernel_rfl) (by rfl) hHeld (fun W' hSw => (by
      obtain ⟨s1', s2'⟩ := hSw
      go_simp
      with_reducible rfl)) ?_
    simp only [List.setIfInBounds_toArray, List.set_cons_zero, List.set_cons_succ]
    refine z_take 3 60 rfl rfl (by kernel_rfl) (by kernel_rfl) (by kernel_rfl) (by kernel_rfl) (by rfl) hHeld (fun W' hSw => (by
      obtain ⟨s1', s2'⟩ := hSw
      go_simp
      with_reducible rfl)) ?_
    simp only [List.setIfInBounds_toArray, List.set_cons_zero, List.set_cons_succ]
    refine z_call 2 59 rfl rfl (by kernel_rfl) (by rfl) (f := 26) (args := #[v1]) (w0 := W8.drew) (by
      go_simp) ?_
    refine (copyTexts_any _ ss _ (hv1.later hB8.drew) h1 HSZ.out).mono ?_
    rintro e w9 ⟨u1, rfl, hN9, hb9⟩
    have B9 : Below W8.heap.size W8 w9 := (Below.refl W8.heap.size W8).drew.trans hb9
    obtain ⟨ga, gn, gc, rfl⟩ := hN9.s1
    have m0 := cell_later hb9 hHeld.1
    have m1 := cell_later hb9 hHeld.2
    have F9 := F8.later B9
    have R9 := (R8.later B9).res
    have hz8 : w.heap.size + 1 < W8.heap.size := R8.lt
    have hB9 := bel_then hB8 hB8.size B9
    have hK9 := (KeepsOthers.of_grownBy (grown_below (row := none) B9) (fun j o e => by cases e)).same D _ hK8 rfl
    refine ⟨_, rfl, .inr ⟨m0, m1⟩, ?_⟩
    simp only [List.setIfInBounds_toArray, List.set_cons_zero, List.set_cons_succ]
    refine z_run 4 61 rfl rfl (by kernel_rfl) (by rfl) (w' := w9) (by
      go_simp
      with_reducible rfl) (.inr ⟨m0, m1⟩) ?_
    simp only [List.setIfInBounds_toArray, List.set_cons_zero, List.set_cons_succ]
    have q0 := R9.1
    have q1 := R9.2.1
    have f0 := R9.2.2.1
    have f1 := R9.2.2.2.1
    have N0 := cell_put (b := w.heap.size + 1) (k := 1) (u := .slice (some ⟨w1.heap.size, 0, none⟩) (ws.length + 1) (ws.length + 1)) (by omega) (cell_put (b := w.heap.size + 1) (k := 0) (u := .slice ga gn gc) (by omega) m0)
    have N1 := cell_put (b := w.heap.size + 1) (k := 1) (u := .slice (some ⟨w1.heap.size, 0, none⟩) (ws.length + 1) (ws.length + 1)) (by omega) (cell_put (b := w.heap.size + 1) (k := 0) (u := .slice ga gn gc) (by omega) m1)
    refine z_skip 5 rfl rfl (by kernel_rfl) (by rfl) (w' := (w9.setCell ⟨w.heap.size + 1, 0, none⟩ (.slice ga gn gc)).setCell ⟨w.heap.size + 1, 1, none⟩ (.slice (some ⟨w1.heap.size, 0, none⟩) (ws.length + 1) (ws.length + 1))) (by
      go_simp) (.inl rfl) ?_
    refine z_run 6 7 rfl rfl (by kernel_rfl) (by rfl) (w' := (w9.setCell ⟨w.heap.size + 1, 0, none⟩ (.slice ga gn gc)).setCell ⟨w.heap.size + 1, 1, none⟩ (.slice (some ⟨w1.heap.size, 0, none⟩) (ws.length + 1) (ws.length + 1))) (by
      go_simp
      with_reducible rfl) (.inr ⟨N0, N1⟩) ?_
    simp only [List.setIfInBounds_toArray, List.set_cons_zero, List.set_cons_succ]
    refine z_done (by kernel_rfl) ?_ _
    have P1 := (hN9.store (b := w.heap.size + 1) (o := 0) (.slice ga gn gc) (by simp; omega)).store (b := w.heap.size + 1) (o := 1) (.slice (some ⟨w1.heap.size, 0, none⟩) (ws.length + 1) (ws.length + 1)) (by simp; omega)
    have PF := (F9.other (grown_set w9 (w.heap.size + 1) 0 (.slice ga gn gc)) (by omega)).other (grown_set _ (w.heap.size + 1) 1 (.slice (some ⟨w1.heap.size, 0, none⟩) (ws.length + 1) (ws.length + 1))) (by omega)
    have P2 := (hB9.setCell (p := ⟨w.heap.size + 1, 0, none⟩) (by simp) (.slice ga gn gc)).setCell (p := ⟨w.heap.size + 1, 1, none⟩) (by simp) (.slice (some ⟨w1.heap.size, 0, none⟩) (ws.length + 1) (ws.length + 1))
    have hK' := ((KeepsOthers.setCell w9 ⟨w.heap.size + 1, 0, none⟩ (.slice ga gn gc)).trans (KeepsOthers.setCell _ ⟨w.heap.size + 1, 1, none⟩ (.slice (some ⟨w1.heap.size, 0, none⟩) (ws.length + 1) (ws.length + 1)))).same D _ hK9 rfl
    obtain ⟨a0, a1⟩ := set2_cells (u := .slice ga gn gc) (v := .slice (some ⟨w1.heap.size, 0, none⟩) (ws.length + 1) (ws.length + 1)) q0 q1
    generalize (w9.setCell ⟨w.heap.size + 1, 0, none⟩ (.slice ga gn gc)).setCell ⟨w.heap.size + 1, 1, none⟩ (.slice (some ⟨w1.heap.size, 0, none⟩) (ws.length + 1) (ws.length + 1)) = Wf at *
    have hgp := grownBy_putObj' Wf D (.deferred none)
    have hgr : ∀ r, some D = some r → ∃ o : Obj, Wf.heap[r]? = some o ∧ o.isCells = false := fun r e => by cases e; exact ⟨_, hK', rfl⟩
    have b0 := cell_kept a0 hgp hgr
    have b1 := cell_kept a1 hgp hgr
    have P3 := P1.turned hgp hgr
    have PF3 := (PF.turned hgp hgr).nw
    rw [List.length_append] at PF3
    have P4 := P2.trans (belowK_b (w := w) (Nat.le_refl _) _ D _ (.deferred none) (by omega) hK' rfl rfl)
    gi_wp2
    refine ⟨by simp, .inl ⟨_, _, rfl, run_takeDeferred hK', ?_⟩⟩
    exact ⟨.tuple #[.agg #[.slice ga gn gc, .slice (some ⟨w1.heap.size, 0, none⟩) (ws.length + 1) (ws.length + 1)], .bool true], by simp [results, Try.f7, go_sem, b0, b1], _, _, by rw [HP.out], by rw [putS_true HP.out, putW_true HP.out]; exact ND_of (P3.mono (by simp; omega)) PF3, P4⟩
  case stop =>
    rintro D c pre W _ _ h _
    exact h.elim

end Go.Proofs.Ytddocjmjianajaa.Disk
