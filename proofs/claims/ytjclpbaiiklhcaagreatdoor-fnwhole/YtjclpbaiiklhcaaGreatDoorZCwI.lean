/- The writes of a commit, of the program. -/
import Derived.Test.YtjclpbaiiklhcaaGreatDoorZV14
import Derived.Deep.RegionHeld3
import Derived.Deep.DeepCutAuto
namespace Go.Proofs.YtjclpbaiiklhcaaGreatDoor
open Go.RowKit

theorem Tryz.infoW : (Tryz.prog.info? 48).map (fun i => (i.zero, i.size, i.bytes)) = some (some (.agg #[.int .i64 0, .string ⟨#[]⟩]), 2, 24) := by kernel_rfl
theorem app_write {ops : Array Oper} {rest : List Oper} {o : Oper} {a : Act} {Q : Exit → Act → World → Prop} (w : World) (hgd : o.guard = none) (s x : Operand)
    (ho : o.op = .call { callee := .builtin .append, args := #[s, x], argTypes := #[25, 25] }) (B : Nat) (v : Value) (n : Nat) (xs : List Value) (hs : a.eval s = v) (hown : w.ownsRow B 48 2 v n xs)
    (g c : Nat) (z : Int) (t : ByteArray) (hx : a.eval x = .slice (some ⟨g, 0, none⟩) 1 c) (hc0 : w.cell? ⟨g, 0, none⟩ = some (.int .i64 z)) (hc1 : w.cell? ⟨g, 1, none⟩ = some (.string t)) (hn : n ≤ 1000000000000) (hB : B ≤ w.heap.size)
    (h : ∀ v' w', w'.ownsRow B 48 2 v' (n + 1) (xs ++ [.int .i64 z, .string t]) → w.grownBy w' v.ownBlock → wpList Tryz.prog ops Q rest (a.put o.dst v') w') : wpList Tryz.prog ops Q (o :: rest) a w := by
  obtain ⟨i, hi, hzz⟩ := Option.map_eq_some_iff.1 Tryz.infoW
  simp only [Prod.mk.injEq] at hzz
  obtain ⟨hz, hsz, hby⟩ := hzz
  refine wpList_append_own w hgd s x 25 ho B 48 i _ 2 24 (by kernel_rfl) hi hz hsz hby rfl (by omega) v n xs hs hown ⟨g, 0, none⟩ 1 c [.int .i64 z, .string t] hx rfl (fun j u hj => ?_) (fun u hu => ?_) (by unfold maxLen; omega) (by omega) hB (fun v' w' h1 h2 _ => h v' w' h1 h2)
  · match j, hj with
    | 0, hj => simp at hj; subst hj; simpa [Addr.add] using hc0
    | 1, hj => simp at hj; subst hj; simpa [Addr.add] using hc1
    | j + 2, hj => simp at hj
  · simp at hu; rcases hu with rfl | rfl <;> rfl
/-- Rows of two types lie apart. -/
theorem own_keep {w w' : World} {B B' e e' size size' n n' : Nat} {v v' : Value} {xs xs' : List Value} (h : w.ownsRow B e size v n xs) (h' : w.ownsRow B' e' size' v' n' xs') (hne : e ≠ e') (hg : w.grownBy w' v'.ownBlock) : w'.ownsRow B e size v n xs := by
  refine World.ownsRow.kept h hg ?_
  obtain ⟨_, h⟩ := h
  obtain ⟨_, h'⟩ := h'
  rcases h with ⟨rfl, _⟩ | ⟨g, cap, cur, rfl, hB, hh, _⟩
  · exact .inl rfl
  · rcases h' with ⟨rfl, _⟩ | ⟨g', cap', cur', rfl, hB', hh', _⟩
    · exact .inr (by simp [Value.ownBlock])
    · refine .inr (fun e => ?_)
      simp only [Value.ownBlock, Option.some.injEq] at e
      subst e
      rw [hh] at hh'
      cases hh'
      exact hne rfl

/-- What the commit's writes come to: they, or a panic. -/
def CwOut (ss : List ByteArray) (ws : List Disk.Wr) (bs : List ByteArray) (B : Nat) (tg : TypeId) (pg : Value) (x : Ending) (w' : World) : Prop :=
  if scrOk ss ws bs = true then ∃ v, x = .returned v ∧ w'.ownsRow B 48 2 v (scrW ss bs).length (Disk.lcells (scrW ss bs)) else x = .panicked [{ v := .iface tg pg, recovered := false }]
theorem cw_no {ss : List ByteArray} {ws : List Disk.Wr} {bs : List ByteArray} {B : Nat} {tg : TypeId} {pg : Value} {w' : World} (h : scrOk ss ws bs = false) : CwOut ss ws bs B tg pg (.panicked [{ v := .iface tg pg, recovered := false }]) w' := by unfold CwOut; rw [if_neg (by rw [h]; simp)]
theorem cw_yes {ss : List ByteArray} {ws : List Disk.Wr} {bs : List ByteArray} {B : Nat} {tg : TypeId} {pg : Value} {w' : World} {v : Value} (h : scrOk ss ws bs = true) (ho : w'.ownsRow B 48 2 v (scrW ss bs).length (Disk.lcells (scrW ss bs))) : CwOut ss ws bs B tg pg (.returned v) w' := by unfold CwOut; rw [if_pos h]; exact ⟨v, rfl, ho⟩

theorem keepC {W a b : World} {x y : Addr} {u v : Value} (k : Below a.heap.size a b) (h : Below W.heap.size W a ∧ a.cell? x = some u ∧ a.cell? y = some v) : Below W.heap.size W b ∧ b.cell? x = some u ∧ b.cell? y = some v := by
  have f : ∀ {x : Addr} {u : Value}, a.cell? x = some u → b.cell? x = some u := fun {x u} h => by
    have hlt : x.block < a.heap.size := by
      rcases Nat.lt_or_ge x.block a.heap.size with h' | h'
      · exact h'
      · simp [World.cell?, Array.getElem?_eq_none h'] at h
    rw [k.cell hlt]
    exact h
  exact ⟨bel_after h.1 k, f h.2.1, f h.2.2⟩
theorem keepAl {W a : World} {x y : Addr} {u v : Value} {o : Obj} (h : Below W.heap.size W a ∧ a.cell? x = some u ∧ a.cell? y = some v) : Below W.heap.size W (a.alloc o) ∧ (a.alloc o).cell? x = some u ∧ (a.alloc o).cell? y = some v := keepC (bel_one a o) h
theorem keepSt {W a : World} {D SB : Nat} {u v p q r : Value} (h : Below W.heap.size W a ∧ a.cell? ⟨D, 0, none⟩ = some u ∧ a.cell? ⟨D, 1, none⟩ = some v) (hS : W.heap.size ≤ SB) (hD : D < W.heap.size) :
    Below W.heap.size W (((a.setCell ⟨SB, 0, none⟩ p).setCell ⟨SB, 1, none⟩ q).setCell ⟨SB, 2, none⟩ r) ∧ (((a.setCell ⟨SB, 0, none⟩ p).setCell ⟨SB, 1, none⟩ q).setCell ⟨SB, 2, none⟩ r).cell? ⟨D, 0, none⟩ = some u ∧ (((a.setCell ⟨SB, 0, none⟩ p).setCell ⟨SB, 1, none⟩ q).setCell ⟨SB, 2, none⟩ r).cell? ⟨D, 1, none⟩ = some v := by
  obtain ⟨h0, h1, h2⟩ := h
  have hne : ∀ i j, (⟨D, i, none⟩ : Addr) ≠ ⟨SB, j, none⟩ := fun i j e => by cases e; omega
  refine ⟨((h0.setCell (p := ⟨SB, 0, none⟩) hS _).setCell (p := ⟨SB, 1, none⟩) hS _).setCell (p := ⟨SB, 2, none⟩) hS _, ?_, ?_⟩
  · rw [World.cell?_setCell_other _ _ _ _ (hne _ _).symm, World.cell?_setCell_other _ _ _ _ (hne _ _).symm, World.cell?_setCell_other _ _ _ _ (hne _ _).symm]; exact h1
  · rw [World.cell?_setCell_other _ _ _ _ (hne _ _).symm, World.cell?_setCell_other _ _ _ _ (hne _ _).symm, World.cell?_setCell_other _ _ _ _ (hne _ _).symm]; exact h2
theorem sb4 {a b : World} {R : Nat} {C : Prop} (c0 : a.cell? ⟨R, 0, none⟩ = some (.int .i64 0)) (c1 : a.cell? ⟨R, 1, none⟩ = some (.slice none 0 0)) (c2 : a.cell? ⟨R, 2, none⟩ = some (.slice none 0 0)) (f0 : a.frozen? ⟨R, 0, none⟩ = false) (f1 : a.frozen? ⟨R, 1, none⟩ = false) (f2 : a.frozen? ⟨R, 2, none⟩ = false) (lt : R < a.heap.size) (hb : Below a.heap.size a b)
    (k : b.cell? ⟨R, 0, none⟩ = some (.int .i64 0) → b.cell? ⟨R, 1, none⟩ = some (.slice none 0 0) → b.cell? ⟨R, 2, none⟩ = some (.slice none 0 0) → b.frozen? ⟨R, 0, none⟩ = false → b.frozen? ⟨R, 1, none⟩ = false → b.frozen? ⟨R, 2, none⟩ = false → R < b.heap.size → C) : C := by
  obtain ⟨x0, x1, x2, y0, y1, y2, z⟩ := Zs.later (w := a) ⟨c0, c1, c2, f0, f1, f2, lt⟩ hb
  exact k x0 x1 x2 y0 y1 y2 z
theorem sb3 {a b : World} {C : Prop} (hb : Below (a.alloc (.cells #[.int .i64 0, .slice none 0 0, .slice none 0 0] 58)).heap.size (a.alloc (.cells #[.int .i64 0, .slice none 0 0, .slice none 0 0] 58)) b)
    (k : b.cell? ⟨a.heap.size, 0, none⟩ = some (.int .i64 0) → b.cell? ⟨a.heap.size, 1, none⟩ = some (.slice none 0 0) → b.cell? ⟨a.heap.size, 2, none⟩ = some (.slice none 0 0) → b.frozen? ⟨a.heap.size, 0, none⟩ = false → b.frozen? ⟨a.heap.size, 1, none⟩ = false → b.frozen? ⟨a.heap.size, 2, none⟩ = false → a.heap.size < b.heap.size → C) : C := by
  obtain ⟨x0, x1, x2, y0, y1, y2, z⟩ := Zs.later (Zs.new a) hb
  exact k x0 x1 x2 y0 y1 y2 z
theorem sb3d {a b : World} {C : Prop} (hb : Below (a.alloc (.cells #[.int .i64 0, .slice none 0 0, .slice none 0 0] 58)).drew.heap.size (a.alloc (.cells #[.int .i64 0, .slice none 0 0, .slice none 0 0] 58)).drew b)
    (k : b.cell? ⟨a.heap.size, 0, none⟩ = some (.int .i64 0) → b.cell? ⟨a.heap.size, 1, none⟩ = some (.slice none 0 0) → b.cell? ⟨a.heap.size, 2, none⟩ = some (.slice none 0 0) → b.frozen? ⟨a.heap.size, 0, none⟩ = false → b.frozen? ⟨a.heap.size, 1, none⟩ = false → b.frozen? ⟨a.heap.size, 2, none⟩ = false → a.heap.size < b.heap.size → C) : C := by
  obtain ⟨x0, x1, x2, y0, y1, y2, z⟩ := Zs.later (w := (a.alloc (.cells #[.int .i64 0, .slice none 0 0, .slice none 0 0] 58)).drew) (R := a.heap.size) (by obtain ⟨c0, c1, c2, f0, f1, f2, lt⟩ := Zs.new a; exact ⟨c0, c1, c2, f0, f1, f2, lt⟩) hb
  exact k x0 x1 x2 y0 y1 y2 z
theorem wrap_small (e : Int) (h0 : 0 ≤ e) (h1 : e ≤ 1000000000) : IntKind.i64.wrap e = e := by
  simp [IntKind.wrap, IntKind.bits, IntKind.signed]
  omega
theorem SRo {w : World} {B : Nat} {v : Value} {l : List ByteArray} (h : w.ownsRow B 9 1 v l.length (tcells l)) : Disk.SR w v l := by
  obtain ⟨ao, cap, rfl, h1, h2⟩ := own_cell h
  refine ⟨ao, cap, rfl, fun i hi => ?_⟩
  obtain ⟨b, rfl, hc⟩ := h2 i hi
  refine ⟨b, 0, rfl, ?_⟩
  rw [Nat.zero_add, hc]
  simp [tcells, hi]
theorem str_bne {s t : ByteArray} (h : ¬ s = t) : (s.toList == t.toList) = false := by
  have := str_ne'' h
  simpa using this
theorem emod_two_range (e : Int) : 0 ≤ e % 2 ∧ e % 2 ≤ 1 := by omega

set_option maxRecDepth 100000 in
set_option maxHeartbeats 6400000 in
theorem commitWrites_any (ao : Option Addr) (cap : Nat) (v2 bv : Value) (ss : List ByteArray) (ws : List Disk.Wr) (bs : List ByteArray) (a0 a1 a2 a3 : Addr) (tg : TypeId) (pg : Value) (w : World)
    (hv1 : Disk.SR w (.slice ao ss.length cap) ss) (hcap : ss.length ≤ cap) (hv2 : Disk.WR w v2 ws) (h1 : ss.length ≤ 10000000000000) (h2 : ws.length ≤ 10000000000000) (hbv : Disk.SR w bv bs) (h3 : bs.length ≤ 10000000000000) (hC : Ctx a0 a1 a2 a3 w) (hG : w.cell? ⟨0, 0, none⟩ = some (.iface tg pg)) :
    Calls Tryz.prog 26 #[.agg #[.slice ao ss.length cap, v2], bv] w fun x w' => CwOut ss ws bs w.heap.size tg pg x w' ∧ Below w.heap.size w w' := by
  have hb0 := bel_one w (.cells #[.slice ao ss.length cap, v2] 27)
  have OK := Disk.implDiskOk_any (.slice ao ss.length cap) v2 ss ws _ (hv1.later hb0) (hv2.later hb0) h1 h2
  obtain ⟨bao, bcap, rfl, hbr⟩ := id hbv
  go_enter Tryz.func26, Tryz.ntmps26
  go_wp2_with fail
  refine OK.mono ?_
  rintro x w1 ⟨rfl, hb1⟩
  clear OK
  have hbw1 := bel_after hb0 hb1
  have d0 : w1.cell? ⟨w.heap.size, 0, none⟩ = some (.slice ao ss.length cap) := cell_later hb1 (by simp)
  have d1 : w1.cell? ⟨w.heap.size, 1, none⟩ = some v2 := cell_later hb1 (by simp)
  have hG1 := cell_later hbw1 hG
  cases hok : Disk.okD ss ws
  · have G : Hid (scrOk ss ws bs = false) := scrOk_no1 hok
    clear hok
    go_wp2_with fail
    refine (giveUp_no tg pg _ hG1).mono ?_
    rintro x w2 ⟨rfl, rfl⟩
    go_wp2
    exact ⟨rfl, cw_no G.out, hbw1⟩
  have HOK : Hid (Disk.okD ss ws = true) := hok
  clear hok
  by_cases h30 : bs.length ≤ 30
  · have g30 : decide ((bs.length : Int) ≤ 30) = true := by simp; omega
    go_wp2_with fail
    refine (giveUp_yes _).mono ?_
    rintro x w2 ⟨rfl, rfl⟩
    have NSC := fun W (hb : Below w.heap.size w W) => newestSuper_cap (.slice ao ss.length cap) v2 ss ws a0 a1 a2 a3 W (hv1.later hb) (hv2.later hb) h1 h2 ⟨_, _, rfl, hcap⟩ (fun h => ss_of (hv1.later hb) h) (hC.later hb)
    have LEC := fun W (hb : Below w.heap.size w W) => lastEpoch_len ao cap v2 ss W (ss_of (hv1.later hb) HOK.out) hcap (hC.later hb).env
    have NR : newestR ss ws = newR ss := newestR_yes HOK.out
    rw [NR] at NSC
    clear NR
    obtain ⟨le0, le1⟩ := lastE_range ss
    have hwr : IntKind.i64.wrap (lastE ss + 1) = lastE ss + 1 := wrap_small _ (by omega) (by omega)
    have ltD : w.heap.size < w2.heap.size := World.block_lt_of_cell? _ _ d0
    go_wp2_with fail
    go_cut [5, 6] (fun pv ev wc => ∃ (SB : Nat) (sv ov : Value), pv = .pointer (some ⟨SB, 0, none⟩) ∧ ev = .int .i64 (lastE ss + 1) ∧ wc.cell? ⟨SB, 1, none⟩ = some sv ∧ wc.cell? ⟨SB, 2, none⟩ = some ov ∧ IR wc sv (newR ss).2 ∧ Disk.SR wc ov (oldB ss) ∧ Below w.heap.size w wc)
    case first =>
      go_region_held3 (fun w' => Below w2.heap.size w2 w' ∧ w'.cell? ⟨w.heap.size, 0, none⟩ = some (.slice ao ss.length cap) ∧ w'.cell? ⟨w.heap.size, 1, none⟩ = some v2)
        (first | assumption | (refine ⟨(Below.refl _ _).drew, ?_, ?_⟩ <;> (first | exact d0 | exact d1)) | (exact keepC (by assumption) (by assumption)) | (exact keepAl (by assumption)) | (exact keepC (bel_after (bel_after hb3 hb4) (bel_one _ _)) ⟨(Below.refl _ _).drew, d0, d1⟩) | (exact keepSt (by assumption) (hb3.size) ltD) | (exact keepSt (by assumption) (Nat.le_refl _) ltD))
        (first
          | (go_at_call 32; refine (NSC _ ?_).mono ?_; (focus (exact bel_after hbw1 (And.left (by assumption)))); rintro x w3 ⟨⟨sv, ov, rfl, o1, o2⟩, hb3⟩; obtain ⟨so, sc, rfl, hq1⟩ := own_cell o1; obtain ⟨bo, bc, rfl, hq2⟩ := own_cell o2; clear hq1 hq2; (first | (refine sb3d hb3 ?_; intro zc0 zc1 zc2 zf0 zf1 zf2 zlt) | skip))
          | (go_at_call 52; refine (LEC _ ?_).mono ?_; (focus (exact bel_after hbw1 (And.left (by assumption)))); rintro x w4 ⟨rfl, hb4⟩; (first | (refine sb3 hb4 ?_; intro yc0 yc1 yc2 yf0 yf1 yf2 ylt) | (refine sb4 zc0 zc1 zc2 zf0 zf1 zf2 zlt hb4 ?_; intro yc0 yc1 yc2 yf0 yf1 yf2 ylt) | skip)))
      all_goals go_wp2_with fail
      all_goals go_meet
      · have bA := bel_after hb4 (bel_one w4 (.cells #[.int .i64 (newR ss).1, .slice so (newR ss).2.length sc, .slice bo (newR ss).2.length bc] 58))
        exact ⟨w4.heap.size, .slice so (newR ss).2.length sc, .slice bo (newR ss).2.length bc, rfl, rfl, by simp, by simp, (IR_of_owns o1).later bA, (SRo (l := oldB ss) (by rw [oldB_length]; exact o2)).later bA, bel_after (bel_after hbw1.drew hb3) bA⟩
      · have bA : Below w3.heap.size w3 (((w4.setCell ⟨w3.heap.size, 0, none⟩ (.int .i64 (newR ss).1)).setCell ⟨w3.heap.size, 1, none⟩ (.slice so (newR ss).2.length sc)).setCell ⟨w3.heap.size, 2, none⟩ (.slice bo (newR ss).2.length bc)) := (((bel_after (bel_one _ _) hb4).setCell (p := ⟨w3.heap.size, 0, none⟩) (Nat.le_refl _) _).setCell (p := ⟨w3.heap.size, 1, none⟩) (Nat.le_refl _) _).setCell (p := ⟨w3.heap.size, 2, none⟩) (Nat.le_refl _) _
        have T3 := three_set yc0 yc1 yc2 (.int .i64 (newR ss).1) (.slice so (newR ss).2.length sc) (.slice bo (newR ss).2.length bc)
        exact ⟨_, _, _, rfl, rfl, T3.2.1, T3.2.2, (IR_of_owns o1).later bA, (SRo (l := oldB ss) (by rw [oldB_length]; exact o2)).later bA, bel_after (bel_after hbw1.drew hb3) bA⟩
      · have T3 := three_set yc0 yc1 yc2 (.int .i64 (newR ss).1) (.slice so (newR ss).2.length sc) (.slice bo (newR ss).2.length bc)
        have p1 := own_store3 (own_later o1 hb4) (R := w2.heap.size) (by simp) (.int .i64 (newR ss).1) (.slice so (newR ss).2.length sc) (.slice bo (newR ss).2.length bc)
        have p2 := own_store3 (own_later o2 hb4) (R := w2.heap.size) (by simp) (.int .i64 (newR ss).1) (.slice so (newR ss).2.length sc) (.slice bo (newR ss).2.length bc)
        have bA : Below w2.heap.size w2 (((w4.setCell ⟨w2.heap.size, 0, none⟩ (.int .i64 (newR ss).1)).setCell ⟨w2.heap.size, 1, none⟩ (.slice so (newR ss).2.length sc)).setCell ⟨w2.heap.size, 2, none⟩ (.slice bo (newR ss).2.length bc)) := (((bel_after (bel_after (bel_one _ _).drew hb3) hb4).setCell (p := ⟨w2.heap.size, 0, none⟩) (Nat.le_refl _) _).setCell (p := ⟨w2.heap.size, 1, none⟩) (Nat.le_refl _) _).setCell (p := ⟨w2.heap.size, 2, none⟩) (Nat.le_refl _) _
        exact ⟨_, _, _, rfl, rfl, T3.2.1, T3.2.2, IR_of_owns p1, SRo (l := oldB ss) (by rw [oldB_length]; exact p2), bel_after hbw1 bA⟩
    case rest =>
      obtain ⟨SB, sv, ov, rfl, rfl, s1, s2, hir, hor, hbw⟩ := hcut
      have N1 := newR_ok ss
      have HOL := oldB_length ss
      have HSY : Hid (lastE ss ≤ 999999998 → supOk (lastE ss + 1) (scrK (newR ss).2 (oldB ss) bs (lastE ss + 1) bs.length).2 = true) := scrP_ok ss bs h30
      have HSN : Hid (¬ lastE ss ≤ 999999998 → supOk (lastE ss + 1) (scrK (newR ss).2 (oldB ss) bs (lastE ss + 1) bs.length).2 = false) := scrP_not ss bs
      have HFI : Hid ((∀ i, i < bs.length → sameB (oldB ss) bs i = true ∨ pgOk i (lastE ss + 1) (bs.getD i ByteArray.empty) = true) → fitB bs = true) := fitB_of
      have HWW : Hid (scrW ss bs = (scrK (newR ss).2 (oldB ss) bs (lastE ss + 1) bs.length).1 ++ [((lastE ss + 1) % 2, supT (lastE ss + 1) (scrK (newR ss).2 (oldB ss) bs (lastE ss + 1) bs.length).2)]) := (rfl : scrW ss bs = _)
      have FR := freeSectors_any sv (newR ss).2 wc hir (by have := N1.2; omega)
      have HFL := freeL_length (newR ss).2
      have hl30 := N1.2
      generalize (newR ss).2 = l at *
      generalize oldB ss = old at *
      clear NSC LEC N1 hb1 hbw1 d0 d1 hG1 hwr ltD hb0
      go_wp2_with fail
      refine FR.mono ?_
      rintro x w5 ⟨⟨fv, rfl, hof⟩, hb5⟩
      clear FR
      obtain ⟨fo, fc, rfl, hfc, hfcell⟩ := own_cell hof
      obtain ⟨fb, rfl, hf0⟩ := hfcell 0 (by omega)
      have fbLt : fb < w5.heap.size := World.block_lt_of_cell? w5 _ (hf0.trans (List.getElem?_eq_getElem (by rw [icells_length]; omega)))
      clear hf0
      have s1' := cell_later hb5 s1
      have s2' := cell_later hb5 s2
      have hir' := hir.later hb5
      have hor' := hor.later hb5
      have hbw5 := bel_after hbw hb5
      clear s1 s2 hir hor hbw hb5
      go_wp2
      go_loopw [7, 8, 9, 34] (fun fv wv sv9 iv wr => ∃ (k m c : Nat) (v8 v9 : Value), k ≤ bs.length ∧ iv = .int .i64 k ∧ (freeL l).length = (scrK l old bs (lastE ss + 1) k).1.length + m ∧ m ≤ c ∧ fv = .slice (some ⟨fb, (scrK l old bs (lastE ss + 1) k).1.length, none⟩) m c ∧ v8 = wv ∧ v9 = sv9 ∧ wr.ownsRow w5.heap.size 48 2 v8 (scrK l old bs (lastE ss + 1) k).1.length (Disk.lcells (scrK l old bs (lastE ss + 1) k).1) ∧ wr.ownsRow w5.heap.size 2 1 v9 k (icells (scrK l old bs (lastE ss + 1) k).2) ∧ Hid (∀ i, i < k → sameB old bs i = true ∨ pgOk i (lastE ss + 1) (bs.getD i ByteArray.empty) = true) ∧ Below w5.heap.size w5 wr) (fun _ _ _ iv _ => bs.length - (intOf iv).toNat)
      case atStart => exact ⟨0, (freeL l).length, fc, _, _, Nat.zero_le _, rfl, (Nat.zero_add _).symm, hfc, rfl, rfl, rfl, World.ownsRow_nil _ _ _ _, World.ownsRow_nil _ _ _ _, (fun i hi => absurd hi (Nat.not_lt_zero i) : ∀ i, i < 0 → _), Below.refl _ _⟩
      case round =>
        obtain ⟨k, m, c, v8, v9, hk, rfl, hfm, hmc, rfl, rfl, rfl, ow8, ow9, hall, hb⟩ := hrel
        have hCr := hC.later (bel_after hbw5 hb)
        have hszr := hb.size
        have sb1 := cell_later hb s1'
        have sb2 := cell_later hb s2'
        obtain ⟨n1, n2⟩ := scr_len l old bs (lastE ss + 1) k
        by_cases hlt : k < bs.length
        · obtain ⟨b6, o6, e6, hbc⟩ := hbr k hlt
          subst e6
          have hbc' := cell_later (bel_after hbw5 hb) hbc
          obtain ⟨j0, j1, j2⟩ := freeL_range l (j := (scrK l old bs (lastE ss + 1) k).1.length) (by omega)
          have hfj : wr.cell? ⟨fb, (scrK l old bs (lastE ss + 1) k).1.length, none⟩ = some (.int .i64 ((freeL l).getD (scrK l old bs (lastE ss + 1) k).1.length 0)) := by
            obtain ⟨b7, e7, hc7⟩ := hfcell (scrK l old bs (lastE ss + 1) k).1.length (by omega)
            cases e7
            refine cell_later hb (hc7.trans ?_)
            simp [icells, show (scrK l old bs (lastE ss + 1) k).1.length < (freeL l).length by omega]
          obtain ⟨ov2, ocp, rfl, horr⟩ := id hor'
          have KS := @scr_same l old bs (lastE ss + 1) k
          have KN := @scr_new l old bs (lastE ss + 1) k
          cases hsm : sameB old bs k
          · have GK := KN hsm
            have NE : k < old.length → ¬ old.getD k ByteArray.empty = bs.getD k ByteArray.empty := fun h e => by
              unfold sameB at hsm
              rw [decide_eq_true h, decide_eq_true e] at hsm
              cases hsm
            have AL : pgOk k (lastE ss + 1) (bs.getD k ByteArray.empty) = true → ∀ i, i < k + 1 → sameB old bs i = true ∨ pgOk i (lastE ss + 1) (bs.getD i ByteArray.empty) = true := fun h => Disk.all_upto hall.out (.inr h)
            have FN : ¬ (bs.getD k ByteArray.empty).size ≤ 200 → fitB bs = false := fitB_not hlt
            obtain ⟨m', rfl⟩ : ∃ m', m = m' + 1 := ⟨m - 1, by omega⟩
            obtain ⟨c', rfl⟩ : ∃ c', c = c' + 1 := ⟨c - 1, by omega⟩
            have OC : ∀ h : k < old.length, ∃ b o, ov2 = some ⟨b, o, none⟩ ∧ wr.cell? ⟨b, o + k, none⟩ = some (.string (old.getD k ByteArray.empty)) := fun h => by
              obtain ⟨b8, o8, e8, hoc⟩ := horr k h
              exact ⟨b8, o8, e8, cell_later hb hoc⟩
            have hG' := cell_later (bel_after hbw5 hb) hG
            have PK := fun bd => implPack_any (k : Int) (lastE ss + 1) bd _ _ wr hCr.errs.e0 hCr.env.tb
            generalize scrK l old bs (lastE ss + 1) k = p at *
            obtain ⟨pw, pl⟩ := p
            simp only at GK n1 n2 hfm ow8 ow9 hfj j0 j1 j2 ⊢
            generalize old.getD k ByteArray.empty = od at *
            generalize bs.getD k ByteArray.empty = bd at *
            generalize (freeL l).getD pw.length 0 = y at *
            have HGK : Hid (scrK l old bs (lastE ss + 1) (k + 1) = (pw ++ [(y, packT k (lastE ss + 1) bd)], pl ++ [y])) := GK
            have HFM : Hid ((freeL l).length = pw.length + (m' + 1)) := hfm
            have HPK := PK bd
            have HAL : Hid (pgOk k (lastE ss + 1) bd = true → ∀ i, i < k + 1 → sameB old bs i = true ∨ pgOk i (lastE ss + 1) (bs.getD i ByteArray.empty) = true) := AL
            have HFN : Hid (¬ bd.size ≤ 200 → fitB bs = false) := FN
            have HPG : Hid (pgOk k (lastE ss + 1) bd = (decide (0 ≤ (k : Int) ∧ (k : Int) ≤ 29) && decide (0 ≤ lastE ss + 1 ∧ lastE ss + 1 ≤ 999999999) && decide (bd.size ≤ 200))) := (rfl : pgOk k (lastE ss + 1) bd = _)
            have hk29 : (k : Int) ≤ 29 := by omega
            clear GK KS KN hsm hall hbc HOL hfm n1 AL FN PK horr hbr
            generalize packT (k : Int) (lastE ss + 1) bd = tx at *
            cases hpg : pgOk k (lastE ss + 1) bd
            · have G : Hid (scrOk ss ws bs = false) := (by
                rw [hpg] at HPG
                by_cases hs : bd.size ≤ 200
                · refine scrOk_no4 (fun hle => ?_)
                  have := HPG.out
                  rw [decide_eq_true (show 0 ≤ (k : Int) ∧ (k : Int) ≤ 29 by omega), decide_eq_true (show 0 ≤ lastE ss + 1 ∧ lastE ss + 1 ≤ 999999999 by omega), decide_eq_true hs] at this
                  cases this
                · exact scrOk_no3 (HFN.out hs) : scrOk ss ws bs = false)
              rw [hpg] at HPK
              clear hpg HPG HAL HFN
              by_cases hko : k < old.length
              · have ne := str_bne (NE hko)
                have hko' : decide ((k : Int) < (old.length : Int)) = true := by simp; omega
                obtain ⟨b8, o8, e8, hoc'⟩ := OC hko
                subst e8
                clear NE OC
                go_wp2_with fail
                refine HPK.mono ?_
                rintro x w7 ⟨rfl, hb7⟩
                have hG7 := cell_later hb7 hG'
                go_wp2_with fail
                refine (giveUp_no tg pg _ hG7).mono ?_
                rintro x w8 ⟨rfl, rfl⟩
                go_wp2
                exact ⟨rfl, cw_no G.out, bel_after (bel_after hbw5 hb) hb7⟩
              · have hko' : decide ((k : Int) < (old.length : Int)) = false := by simp; omega
                clear NE OC
                go_wp2_with fail
                refine HPK.mono ?_
                rintro x w7 ⟨rfl, hb7⟩
                have hG7 := cell_later hb7 hG'
                go_wp2_with fail
                refine (giveUp_no tg pg _ hG7).mono ?_
                rintro x w8 ⟨rfl, rfl⟩
                go_wp2
                exact ⟨rfl, cw_no G.out, bel_after (bel_after hbw5 hb) hb7⟩
            · have HALL : Hid (∀ i, i < k + 1 → sameB old bs i = true ∨ pgOk i (lastE ss + 1) (bs.getD i ByteArray.empty) = true) := HAL.out hpg
              rw [hpg] at HPK
              clear hpg HPG HAL HFN
              by_cases hko : k < old.length
              · have ne := str_bne (NE hko)
                have hko' : decide ((k : Int) < (old.length : Int)) = true := by simp; omega
                obtain ⟨b8, o8, e8, hoc'⟩ := OC hko
                subst e8
                clear NE OC
                go_wp2_with fail
                refine HPK.mono ?_
                rintro x w7 ⟨rfl, hb7⟩
                go_wp2_with fail
                refine (giveUp_yes _).mono ?_
                rintro x w8 ⟨rfl, rfl⟩
                have hbA := bel_after hb hb7
                have hA1 := bel_one w8 (.cells #[.int .i64 y, .string tx] 48)
                have ow8A := own_later (own_later ow8 hb7) hA1
                have ow9A := own_later (own_later ow9 hb7) hA1
                have hfjA := cell_later (bel_after hb7 hA1) hfj
                have hfj7 := cell_later hb7 hfj
                have hbB := bel_after hbA hA1
                have hszA := hbA.size
                have hcw0 : ∀ W : World, (W.alloc (.cells #[.int .i64 y, .string tx] 48)).cell? ⟨W.heap.size, 0, none⟩ = some (.int .i64 y) := fun W => by simp
                have hcw1 : ∀ W : World, (W.alloc (.cells #[.int .i64 y, .string tx] 48)).cell? ⟨W.heap.size, 1, none⟩ = some (.string tx) := fun W => by simp
                have hci : ∀ W : World, (W.alloc (.cells #[.int .i64 y] 2)).cell? ⟨W.heap.size, 0, none⟩ = some (.int .i64 y) := fun W => by simp
                have lFB : fb < w5.heap.size := fbLt
                clear hb7 ow8 ow9 hfj
                go_wp2_with (first
                  | (at_builtin; refine app_write _ rfl _ _ rfl w5.heap.size _ pw.length _ rfl ow8A _ 1 y tx rfl (hcw0 _) (hcw1 _) (by omega) (by simp; omega) ?_; intro v5 wB own5 g5; have gwB := own_grown hbB ow8A g5 (by simp; omega); have own9B := own_keep ow9A ow8A (by decide) g5; have hfjB := (gwB.cell (p := ⟨fb, pw.length, none⟩) lFB).trans (((hbB.cell (p := ⟨fb, pw.length, none⟩) lFB).symm).trans hfjA); have hszB := gwB.size; have hA2 := bel_one wB (.cells #[.int .i64 y] 2); have own9C := own_later own9B hA2; have own5C := own_later own5 hA2; have hbC : Below w5.heap.size w5 (wB.alloc (.cells #[.int .i64 y] 2)) := bel_after gwB hA2)
                  | (at_builtin; refine app_int _ rfl _ _ rfl w5.heap.size _ k _ rfl own9C _ 1 y rfl (hci _) (by omega) (by simp; omega) ?_; intro v6 wD own6 g6; have gwD := own_grown hbC own9C g6 (by simp; omega); have own5D := own_keep own5C own9C (by decide) g6))
                have c0 : ¬ c' = 0 := by have := HFM.out; omega
                go_roundw
                case rel => exact ⟨k + 1, m', c', _, _, by omega, by go_num, by rw [HGK.out, List.length_append, List.length_singleton, HFM.out]; omega, by omega, by rw [HGK.out, List.length_append, List.length_singleton, if_neg c0], rfl, rfl, by rw [HGK.out, List.length_append, List.length_singleton, Disk.lcells_snoc]; exact own5D, by rw [HGK.out]; unfold icells; rw [List.map_append]; exact own6, HALL, gwD⟩
                case measure => simp [intOf]; omega
              · have hko' : decide ((k : Int) < (old.length : Int)) = false := by simp; omega
                clear NE OC
                go_wp2_with fail
                refine HPK.mono ?_
                rintro x w7 ⟨rfl, hb7⟩
                go_wp2_with fail
                refine (giveUp_yes _).mono ?_
                rintro x w8 ⟨rfl, rfl⟩
                have hbA := bel_after hb hb7
                have hA1 := bel_one w8 (.cells #[.int .i64 y, .string tx] 48)
                have ow8A := own_later (own_later ow8 hb7) hA1
                have ow9A := own_later (own_later ow9 hb7) hA1
                have hfjA := cell_later (bel_after hb7 hA1) hfj
                have hfj7 := cell_later hb7 hfj
                have hbB := bel_after hbA hA1
                have hszA := hbA.size
                have hcw0 : ∀ W : World, (W.alloc (.cells #[.int .i64 y, .string tx] 48)).cell? ⟨W.heap.size, 0, none⟩ = some (.int .i64 y) := fun W => by simp
                have hcw1 : ∀ W : World, (W.alloc (.cells #[.int .i64 y, .string tx] 48)).cell? ⟨W.heap.size, 1, none⟩ = some (.string tx) := fun W => by simp
                have hci : ∀ W : World, (W.alloc (.cells #[.int .i64 y] 2)).cell? ⟨W.heap.size, 0, none⟩ = some (.int .i64 y) := fun W => by simp
                have lFB : fb < w5.heap.size := fbLt
                clear hb7 ow8 ow9 hfj
                go_wp2_with (first
                  | (at_builtin; refine app_write _ rfl _ _ rfl w5.heap.size _ pw.length _ rfl ow8A _ 1 y tx rfl (hcw0 _) (hcw1 _) (by omega) (by simp; omega) ?_; intro v5 wB own5 g5; have gwB := own_grown hbB ow8A g5 (by simp; omega); have own9B := own_keep ow9A ow8A (by decide) g5; have hfjB := (gwB.cell (p := ⟨fb, pw.length, none⟩) lFB).trans (((hbB.cell (p := ⟨fb, pw.length, none⟩) lFB).symm).trans hfjA); have hszB := gwB.size; have hA2 := bel_one wB (.cells #[.int .i64 y] 2); have own9C := own_later own9B hA2; have own5C := own_later own5 hA2; have hbC : Below w5.heap.size w5 (wB.alloc (.cells #[.int .i64 y] 2)) := bel_after gwB hA2)
                  | (at_builtin; refine app_int _ rfl _ _ rfl w5.heap.size _ k _ rfl own9C _ 1 y rfl (hci _) (by omega) (by simp; omega) ?_; intro v6 wD own6 g6; have gwD := own_grown hbC own9C g6 (by simp; omega); have own5D := own_keep own5C own9C (by decide) g6))
                have c0 : ¬ c' = 0 := by have := HFM.out; omega
                go_roundw
                case rel => exact ⟨k + 1, m', c', _, _, by omega, by go_num, by rw [HGK.out, List.length_append, List.length_singleton, HFM.out]; omega, by omega, by rw [HGK.out, List.length_append, List.length_singleton, if_neg c0], rfl, rfl, by rw [HGK.out, List.length_append, List.length_singleton, Disk.lcells_snoc]; exact own5D, by rw [HGK.out]; unfold icells; rw [List.map_append]; exact own6, HALL, gwD⟩
                case measure => simp [intOf]; omega
          · have GK := KS hsm
            have hko : k < old.length := by
              unfold sameB at hsm
              simp only [Bool.and_eq_true, decide_eq_true_eq] at hsm
              exact hsm.1
            have hkeq : old.getD k ByteArray.empty = bs.getD k ByteArray.empty := by
              unfold sameB at hsm
              simp only [Bool.and_eq_true, decide_eq_true_eq] at hsm
              exact hsm.2
            obtain ⟨b8, o8, e8, hoc⟩ := horr k hko
            subst e8
            have hoc' := cell_later hb hoc
            rw [hkeq] at hoc'
            have HALL : Hid (∀ i, i < k + 1 → sameB old bs i = true ∨ pgOk i (lastE ss + 1) (bs.getD i ByteArray.empty) = true) := Disk.all_upto hall.out (.inl hsm)
            obtain ⟨so9, sc9, rfl, _, hirr⟩ := id hir'
            obtain ⟨b9, o9, e9, hic⟩ := hirr k (by omega)
            subst e9
            have hic' := cell_later hb hic
            generalize scrK l old bs (lastE ss + 1) k = p at *
            obtain ⟨pw, pl⟩ := p
            simp only at GK n1 n2 hfm ow8 ow9 hfj j0 j1 j2 ⊢
            have HGK : Hid (scrK l old bs (lastE ss + 1) (k + 1) = (pw, pl ++ [l.getD k 0])) := GK
            have hko' : decide ((k : Int) < (old.length : Int)) = true := by simp; omega
            have hkl : (k : Int) < (l.length : Int) := by omega
            have HFM : Hid ((freeL l).length = pw.length + m) := hfm
            clear GK KS KN hsm hkeq hall hoc hic hbc HOL hfj hfm n1 horr hirr hbr
            generalize l.getD k 0 = y at *
            generalize bs.getD k ByteArray.empty = bd at *
            have hal := bel_one wr (.cells #[.int .i64 y] 2)
            have ow91 := own_later ow9 hal
            have ow81 := own_later ow8 hal
            have hb1 := bel_after hb hal
            have hc : ∀ W : World, (W.alloc (.cells #[.int .i64 y] 2)).cell? ⟨W.heap.size, 0, none⟩ = some (.int .i64 y) := fun W => by simp
            go_wp2_with (at_builtin; refine app_int _ rfl _ _ rfl w5.heap.size _ k _ rfl ow91 _ 1 y rfl (hc _) (by omega) (by simp; omega) ?_; intro v5 wA own5 g5; have gw5 := own_grown hb1 ow91 g5 (by simp; omega); have own8 := own_keep ow81 ow91 (by decide) g5)
            go_roundw
            case rel =>
              exact ⟨k + 1, m, c, _, _, by omega, by go_num, by rw [HGK.out]; exact HFM.out, hmc, by rw [HGK.out], rfl, rfl, by rw [HGK.out]; exact own8, by rw [HGK.out]; unfold icells; rw [List.map_append]; exact own5, HALL, gw5⟩
            case measure => simp [intOf]; omega
        · obtain rfl : k = bs.length := by omega
          have hG' := cell_later (bel_after hbw5 hb) hG
          have HW2 := HWW.out
          have HY2 := HSY.out
          have HN2 := HSN.out
          generalize scrK l old bs (lastE ss + 1) bs.length = p at *
          obtain ⟨pw, pl⟩ := p
          simp only at HW2 HY2 HN2 n1 n2 hfm ow8 ow9 ⊢
          have HW3 : Hid (scrW ss bs = pw ++ [((lastE ss + 1) % 2, supT (lastE ss + 1) pl)]) := HW2
          have SU := implSuper_any (lastE ss + 1) v9 pl wr (IR_of_owns (by rw [n1]; exact ow9)) (by omega) hCr.env.tb
          clear HW2 HWW HSY HSN n1 hfm
          by_cases hle : lastE ss ≤ 999999998
          · rw [HY2 hle] at SU
            have G : Hid (scrOk ss ws bs = true) := scrOk_yes HOK.out h30 (HFI.out hall.out) hle
            clear HY2 HN2
            generalize supT (lastE ss + 1) pl = tx at *
            go_wp2_with fail
            refine SU.mono ?_
            rintro x w7 ⟨rfl, hb7⟩
            clear SU
            go_wp2_with fail
            refine (giveUp_yes _).mono ?_
            rintro x w8 ⟨rfl, rfl⟩
            have hbA := bel_after hb hb7
            have hA1 := bel_one w8 (.cells #[.int .i64 ((lastE ss + 1) % 2), .string tx] 48)
            have ow8A := own_later (own_later ow8 hb7) hA1
            have hbB := bel_after hbA hA1
            have hszA := hbA.size
            have hsz5 := hbw5.size
            have hcw0 : ∀ W : World, (W.alloc (.cells #[.int .i64 ((lastE ss + 1) % 2), .string tx] 48)).cell? ⟨W.heap.size, 0, none⟩ = some (.int .i64 ((lastE ss + 1) % 2)) := fun W => by simp
            have hcw1 : ∀ W : World, (W.alloc (.cells #[.int .i64 ((lastE ss + 1) % 2), .string tx] 48)).cell? ⟨W.heap.size, 1, none⟩ = some (.string tx) := fun W => by simp
            go_wp2_with (at_builtin; refine app_write _ rfl _ _ rfl w5.heap.size _ pw.length _ rfl ow8A _ 1 ((lastE ss + 1) % 2) tx rfl (hcw0 _) (hcw1 _) (by omega) (by simp; omega) ?_; intro v5 wB own5 g5; have gwB := own_grown hbB ow8A g5 (by simp; omega))
            go_ret
            refine ⟨cw_yes G.out ?_, bel_after hbw5 gwB⟩
            rw [HW3.out, List.length_append, List.length_singleton, Disk.lcells_snoc]
            exact own_mono own5 hsz5
          · rw [HN2 (by omega)] at SU
            have G : Hid (scrOk ss ws bs = false) := scrOk_no4 hle
            go_wp2_with fail
            refine SU.mono ?_
            rintro x w7 ⟨rfl, hb7⟩
            have hG7 := cell_later hb7 hG'
            go_wp2_with fail
            refine (giveUp_no tg pg _ hG7).mono ?_
            rintro x w8 ⟨rfl, rfl⟩
            go_wp2
            exact ⟨rfl, cw_no G.out, bel_after (bel_after hbw5 hb) hb7⟩
  · have G : Hid (scrOk ss ws bs = false) := scrOk_no2 h30
    have g30 : decide ((bs.length : Int) ≤ 30) = false := by simp; omega
    clear h30
    go_wp2_with fail
    refine (giveUp_no tg pg _ hG1).mono ?_
    rintro x w2 ⟨rfl, rfl⟩
    go_wp2
    exact ⟨rfl, cw_no G.out, hbw1⟩

end Go.Proofs.YtjclpbaiiklhcaaGreatDoor
