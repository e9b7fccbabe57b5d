import Derived.Test.YtjclpbaiiklhcaaGreatDoorZDrawNw2
import Derived.Test.YtjclpbaiiklhcaaGreatDoorZV3
import Derived.Test.YtjclpbaiiklhcaaGreatDoorZV19
import Derived.Deep.RegionHeld3
import Derived.Deep.DeepCutAuto
/- DrawCommit of the model. -/
namespace Go.Proofs.YtjclpbaiiklhcaaGreatDoor
open Go.RowKit

theorem grown_of {w w' : World} {N : Nat} (hb : Below w.heap.size w w') : w.grownBy w' (some N) := ⟨hb.os, hb.tape, hb.output, hb.size, fun k hk _ => hb.block k hk⟩

set_option maxRecDepth 100000 in
set_option maxHeartbeats 3200000 in
theorem drawCommit_any (cv : Value) (cs : List UInt8) (w : World) (hc : BR w cv cs) (hn : cs.length ≤ 4096) :
    Calls Tryz.prog 6 #[cv] w fun x w' => (∃ (u1 u2 bv : Value) (ss : List ByteArray) (ws : List Disk.Wr) (bs : List ByteArray), x = .returned (.tuple #[.agg #[u1, u2], bv]) ∧ Disk.SR w' u1 ss ∧ Disk.WR w' u2 ws ∧ Disk.SR w' bv bs ∧ ss.length ≤ 64 ∧ ws.length ≤ 300 ∧ bs.length ≤ 31 ∧ Disk.CapS u1 ∧ Low w.heap.size u1 ∧ Low w.heap.size u2 ∧ Low w.heap.size bv ∧ (ss.length = 64 → ∀ i, i < 2 → DPt (textAt ss i))) ∧ Below w.heap.size w w' := by
  have h0 := Disk.bel_one w (.cells #[.slice none 0 0, .slice none 0 0] 27)
  have NW := l1New_any cv cs (w.alloc (.cells #[.slice none 0 0, .slice none 0 0] 27)) (hc.later h0) hn
  have R0 := Bx.new w (.slice none 0 0) (.slice none 0 0)
  have z0 : (w.alloc (.cells #[.slice none 0 0, .slice none 0 0] 27)).heap.size = w.heap.size + 1 := by simp
  go_enter Tryz.func6, Tryz.ntmps6
  go_wp2_with fail
  refine NW.mono ?_
  rintro x w1 ⟨N, rfl, hN, hN1, hb1, d1⟩
  clear NW
  rw [z0] at hN
  go_wp2_with fail
  refine (drawNewest_any cv cs w1 ((hc.later h0).later hb1) hn).mono ?_
  rintro x w2 ⟨⟨u1, u2, ss, ws, rfl, s1, s2, l1, l2, cp, o1, o2, dp⟩, hb2⟩
  have DPH : Hid (ss.length = 64 → ∀ i, i < 2 → DPt (textAt ss i)) := dp
  clear dp
  have g2 : w1.grownBy w2 (some N) := grown_of hb2
  have d2 := d1.later hb2 hN1
  have hN2 : N < w2.heap.size := Nat.lt_of_lt_of_le hN1 g2.size
  obtain ⟨a1, k1, e1, _⟩ := id s1
  obtain ⟨a2, k2, e2, _⟩ := id s2
  subst e1
  subst e2
  have hw1 : w.heap.size < w1.heap.size := by omega
  have S1 : Hid (∀ W : World, w2.grownBy W (some N) → Disk.SR ((W.setCell ⟨w.heap.size, 0, none⟩ (.slice a1 ss.length k1)).setCell ⟨w.heap.size, 1, none⟩ (.slice a2 ws.length k2)) (.slice a1 ss.length k1) ss) := fun W g => sr_off (sr_keep s1 o1 hN1 g) o1 hw1
  have S2 : Hid (∀ W : World, w2.grownBy W (some N) → Disk.WR ((W.setCell ⟨w.heap.size, 0, none⟩ (.slice a1 ss.length k1)).setCell ⟨w.heap.size, 1, none⟩ (.slice a2 ws.length k2)) (.slice a2 ws.length k2) ws) := fun W g => wr_off (wr_keep s2 o2 hN1 g) o2 hw1
  have BW : Hid (∀ W : World, w2.grownBy W (some N) → Below w.heap.size w ((W.setCell ⟨w.heap.size, 0, none⟩ (.slice a1 ss.length k1)).setCell ⟨w.heap.size, 1, none⟩ (.slice a2 ws.length k2))) := fun W g => gbel (gbel (bel_after h0 hb1) (gtrans g2 g) (by have := hb1.size; omega) (by omega)) (gset (gset1 W w.heap.size 0 (.slice a1 ss.length k1)) 1 (.slice a2 ws.length k2)) (by have := (gtrans g2 g).size; omega) (Nat.le_refl _)
  have RB : Hid (∀ W : World, w2.grownBy W (some N) → Bx W w.heap.size (.slice none 0 0) (.slice none 0 0)) := fun W g => (R0.later hb1).grown (gtrans g2 g) (fun e => by have := Option.some.inj e; omega)
  have gA : w2.grownBy (w2.alloc (.cells #[.slice a1 ss.length k1, .slice a2 ws.length k2] 27)) (some N) := galloc _ _ _
  have dA := d2.grown gA d2 (galloc _ _ none) (by simp) hN2
  have DB : Hid (∀ W : World, (w2.alloc (.cells #[.slice a1 ss.length k1, .slice a2 ws.length k2] 27)).grownBy W (some N) → Bx W w2.heap.size (.slice a1 ss.length k1) (.slice a2 ws.length k2)) := fun W g => (Bx.new w2 _ _).grown g (fun e => by have := Option.some.inj e; omega)
  have FX : Hid (ss.length ≤ 64 ∧ ws.length ≤ 300 ∧ Disk.CapS (.slice a1 ss.length k1) ∧ Low w.heap.size (.slice a1 ss.length k1) ∧ Low w.heap.size (.slice a2 ws.length k2)) := ⟨l1, l2, cp, fun a n c e h => Nat.le_trans (Nat.le_of_lt hw1) (o1 a n c e h), fun a n c e h => Nat.le_trans (Nat.le_of_lt hw1) (o2 a n c e h)⟩
  have hNA : N < (w2.alloc (.cells #[.slice a1 ss.length k1, .slice a2 ws.length k2] 27)).drew.heap.size := Nat.lt_of_lt_of_le hN2 gA.size
  have szA : w2.heap.size ≤ (w2.alloc (.cells #[.slice a1 ss.length k1, .slice a2 ws.length k2] 27)).drew.heap.size := gA.size
  have hne : w2.heap.size ≠ w.heap.size := by have := g2.size; omega
  have BD := dA.drew.bodies hNA
  have m0 := (DB.out _ (gdrew (World.grownBy.refl _ _))).c0
  have m1 := (DB.out _ (gdrew (World.grownBy.refl _ _))).c1
  have gd : (w2.alloc (.cells #[.slice a1 ss.length k1, .slice a2 ws.length k2] 27)).grownBy (w2.alloc (.cells #[.slice a1 ss.length k1, .slice a2 ws.length k2] 27)).drew (some N) := gdrew (World.grownBy.refl _ _)
  clear s1 s2 o1 o2 d1 R0 cp l1 l2 hb2
  go_wp2_with fail
  go_region_held3 (fun w' => w'.cell? ⟨w2.heap.size, 0, none⟩ = some (.slice a1 ss.length k1) ∧ w'.cell? ⟨w2.heap.size, 1, none⟩ = some (.slice a2 ws.length k2))
    (first | assumption | (exact ⟨m0, m1⟩) | (exact ⟨(DB.out _ gw5).c0, (DB.out _ gw5).c1⟩) | (exact ⟨(bx_off (DB.out _ gw5) hne _ _).c0, (bx_off (DB.out _ gw5) hne _ _).c1⟩))
    (first | (go_at_call 24; refine BD.mono ?_; rintro x w5 ⟨⟨bv, bs, rfl, nb, lb⟩, g5, d5⟩; have gw5 := gtrans gd g5; have q5 := RB.out _ (gtrans gA gw5); have o0 := q5.c0; have o1 := q5.c1; have of0 := q5.f (o := 0); have of1 := q5.f (o := 1)))
  all_goals go_wp2
  have p0 := (q5.set (.slice a1 ss.length k1) (.slice a2 ws.length k2)).c0
  have p1 := (q5.set (.slice a1 ss.length k1) (.slice a2 ws.length k2)).c1
  have lw : Low w2.heap.size bv := fun a n c e h => Nat.le_trans szA (low_ns nb a n c e h)
  have sb := sr_off (x := .slice a1 ss.length k1) (y := .slice a2 ws.length k2) nb.2.1 lw (by have := g2.size; omega : w.heap.size < w2.heap.size)
  exact bodyPost_ret (v := .tuple #[.agg #[.slice a1 ss.length k1, .slice a2 ws.length k2], bv]) (by simp [results, Tryz.results6, go_sem, p0, p1]) rfl ⟨⟨_, _, bv, ss, ws, bs, rfl, S1.out _ (gtrans gA gw5), S2.out _ (gtrans gA gw5), sb, FX.out.1, FX.out.2.1, lb, FX.out.2.2.1, FX.out.2.2.2.1, FX.out.2.2.2.2, fun a n c e h => Nat.le_trans (by have := g2.size; omega) (lw a n c e h), DPH.out⟩, BW.out _ (gtrans gA gw5)⟩

end Go.Proofs.YtjclpbaiiklhcaaGreatDoor

/- pick and big of the laws. -/
namespace Go.Proofs.YtjclpbaiiklhcaaGreatDoor
open Go.RowKit


theorem big_any (cv : Value) (cs : List UInt8) (w : World) (hc : BR w cv cs) :
    Calls Tryz.prog 5 #[cv] w fun x w' => x = .returned (.bool (decide (4096 < cs.length))) ∧ w' = w := by
  obtain ⟨ao, cap, rfl, hcap, hr⟩ := hc
  have e : decide (4096 < cs.length) = decide ((4096 : Int) < (cs.length : Int)) := by rw [decide_eq_decide]; omega
  rw [e]
  go_enter Tryz.func5, Tryz.ntmps5
  go_wp2
  go_ret
  exact ⟨rfl, rfl⟩

end Go.Proofs.YtjclpbaiiklhcaaGreatDoor

/- superPut of the program. -/
namespace Go.Proofs.YtjclpbaiiklhcaaGreatDoor
open Go.RowKit Disk

theorem WR_take {w : World} {ao : Option Addr} {n cap : Nat} {W : List Wr} {p : Nat} (h : WR w (.slice ao n cap) W) (hp : p ≤ W.length) : WR w (.slice ao p cap) (W.take p) := by
  obtain ⟨ao', cap', e, h⟩ := h
  simp only [Value.slice.injEq] at e
  obtain ⟨rfl, rfl, rfl⟩ := e
  have e1 : (W.take p).length = p := by rw [List.length_take]; omega
  refine ⟨ao, cap, by rw [e1], fun i hi => ?_⟩
  rw [e1] at hi
  obtain ⟨b, o, e2, c0, c1⟩ := h i (by omega)
  have e3 : (W.take p).getD i wr0 = W.getD i wr0 := by simp [List.getD_eq_getElem?_getD, hi]
  exact ⟨b, o, e2, by rw [e3]; exact c0, by rw [e3]; exact c1⟩
theorem WR_drop {w : World} {b o n cap cap' : Nat} {W : List Wr} {p m : Nat} (h : WR w (.slice (some ⟨b, o, none⟩) n cap) W) (hp : W.length = p + m) : WR w (.slice (some ⟨b, o + p * 2, none⟩) m cap') (W.drop p) := by
  obtain ⟨ao', cap'', e, h⟩ := h
  simp only [Value.slice.injEq] at e
  obtain ⟨rfl, rfl, rfl⟩ := e
  have e1 : (W.drop p).length = m := by rw [List.length_drop]; omega
  refine ⟨_, _, by rw [e1], fun i hi => ?_⟩
  rw [e1] at hi
  obtain ⟨b2, o2, e2, c0, c1⟩ := h (p + i) (by omega)
  cases e2
  have e3 : (W.drop p).getD i wr0 = W.getD (p + i) wr0 := by simp [List.getD_eq_getElem?_getD]
  refine ⟨b, o + p * 2, rfl, ?_, ?_⟩
  · rw [e3]
    have : o + p * 2 + i * 2 = o + (p + i) * 2 := by omega
    rw [this]
    exact c0
  · rw [e3]
    have : o + p * 2 + i * 2 + 1 = o + (p + i) * 2 + 1 := by omega
    rw [this]
    exact c1

theorem keepB1 {W a : World} {D : Nat} {u : Value} (hb : Below W.heap.size W a) (c : W.cell? ⟨D, 0, none⟩ = some u) (lt : D < W.heap.size) : Below W.heap.size W a ∧ a.cell? ⟨D, 0, none⟩ = some u := ⟨hb, (hb.cell (p := ⟨D, 0, none⟩) lt).trans c⟩
theorem sb2d {a b : World} {C : Prop} (hb : Below (a.alloc (.cells #[.slice none 0 0, .slice none 0 0] 27)).drew.heap.size (a.alloc (.cells #[.slice none 0 0, .slice none 0 0] 27)).drew b)
    (k : b.cell? ⟨a.heap.size, 0, none⟩ = some (.slice none 0 0) → b.cell? ⟨a.heap.size, 1, none⟩ = some (.slice none 0 0) → b.frozen? ⟨a.heap.size, 0, none⟩ = false → b.frozen? ⟨a.heap.size, 1, none⟩ = false → a.heap.size < b.heap.size → C) : C := by
  have r : Res a.heap.size (a.alloc (.cells #[.slice none 0 0, .slice none 0 0] 27)).drew := ⟨cell_new a _ 27 _ rfl 0 _ rfl, cell_new a _ 27 _ rfl 1 _ rfl, frozen_new a _ 27 _ rfl 0, frozen_new a _ 27 _ rfl 1, by show a.heap.size < (a.alloc _).heap.size; simp⟩
  obtain ⟨x0, x1, y0, y1, z⟩ := r.later hb
  exact k x0 x1 y0 y1 z

set_option maxRecDepth 100000 in
set_option maxHeartbeats 3200000 in
theorem superPut_any (v1 v2 : Value) (b : Nat) (ss : List ByteArray) (W : List Wr) (p c : Nat) (w : World) (hv1 : SR w v1 ss) (hw : WR w (.slice (some ⟨b, 0, none⟩) (p + 1) (p + (c + 1))) W) (hl : W.length = p + 1) (hp : p ≤ 40) (h1 : ss.length ≤ 10000000000000) (ok1 : okD ss (W.take p) = true) :
    Calls Tryz.prog 28 #[.agg #[v1, v2], .slice (some ⟨b, 0, none⟩) (p + 1) (p + (c + 1))] w fun e w' => ∃ u1 u2, e = .returned (.agg #[u1, u2]) ∧ SR w' u1 (doneS ss (W.take p)) ∧ WR w' u2 (W.drop p) ∧ Below w.heap.size w w' := by
  obtain ⟨sao, scp, hsv, _⟩ := id hv1
  subst hsv
  have hb0 := Disk.bel_two w (.cells #[(.slice sao ss.length scp), v2] 27) (.cells #[.slice none 0 0, .slice none 0 0] 27)
  have HD := fun W' (hb : Below w.heap.size w W') => implHold_any (.slice sao ss.length scp) (.slice (some ⟨b, 0, none⟩) p (p + (c + 1))) ss (W.take p) W' (hv1.later hb) (WR_take (hw.later hb) (by omega)) h1 (by rw [List.length_take]; omega)
  rw [hold_done ok1] at HD
  have c0 : ((w.alloc (.cells #[(.slice sao ss.length scp), v2] 27)).alloc (.cells #[.slice none 0 0, .slice none 0 0] 27)).cell? ⟨w.heap.size, 0, none⟩ = some (.slice sao ss.length scp) := cell_later (Disk.bel_one _ _) (cell_new w #[(.slice sao ss.length scp), v2] 27 _ rfl 0 _ rfl)
  go_enter Tryz.func28, Tryz.ntmps28
  go_wp2_with fail
  have R0 : Res (w.heap.size + 1) ((w.alloc (.cells #[(.slice sao ss.length scp), v2] 27)).alloc (.cells #[.slice none 0 0, .slice none 0 0] 27)) := ⟨cell_new _ _ 27 _ (by simp) 0 _ rfl, cell_new _ _ 27 _ (by simp) 1 _ rfl, frozen_new _ _ 27 _ (by simp) 0, frozen_new _ _ 27 _ (by simp) 1, by simp⟩
  generalize (w.alloc (.cells #[(.slice sao ss.length scp), v2] 27)).alloc (.cells #[.slice none 0 0, .slice none 0 0] 27) = W0 at *
  have ltD : w.heap.size < W0.heap.size := World.block_lt_of_cell? _ _ c0
  have ltR : w.heap.size + 1 < W0.heap.size := R0.2.2.2.2
  have hpi : (p : Int) ≤ (p : Int) + ((c : Int) + 1) := by omega
  have HR0 : Hid (Res (w.heap.size + 1) W0) := R0
  clear R0
  go_cut [6] (fun pv wc => ∃ (SB : Nat) (u1 u2 : Value), pv = .pointer (some ⟨SB, 0, none⟩) ∧ W0.heap.size ≤ SB ∧ wc.cell? ⟨SB, 0, none⟩ = some u1 ∧ NS W0.heap.size wc u1 (doneS ss (W.take p)) ∧ Res (w.heap.size + 1) wc ∧ Below w.heap.size w wc)
  case first =>
    go_region_held3 (fun w' => Below W0.heap.size W0 w' ∧ w'.cell? ⟨w.heap.size, 0, none⟩ = some (.slice sao ss.length scp))
      (first | assumption | (exact ⟨(Below.refl _ _).drew, c0⟩) | (exact keepB1 (bel_after (And.left (by assumption)) (by assumption)) c0 ltD) | (exact keepB1 (bel_after (And.left (by assumption)) (Disk.bel_one _ _)) c0 ltD) | (exact keepB1 (bel_after (bel_after (Below.refl _ _).drew hb3) (Disk.bel_one _ _)) c0 ltD) | (exact keepB1 (((bel_after (Disk.bel_one _ _).drew hb3).setCell (p := ⟨W0.heap.size, 0, none⟩) (Nat.le_refl _) _).setCell (p := ⟨W0.heap.size, 1, none⟩) (Nat.le_refl _) _) c0 ltD))
      (first
        | (go_at_call 27; refine (HD _ ?_).mono ?_; (focus (exact bel_after hb0 (And.left (by assumption)))); rintro x w3 ⟨x1, x2, rfl, hN, hb3⟩; obtain ⟨xa, xn, xc, rfl⟩ := hN.s1; obtain ⟨ya, yn, yc, rfl⟩ := hN.s2; (first | (refine sb2d hb3 ?_; intro zc0 zc1 zf0 zf1 zlt) | skip)))
    all_goals go_wp2_with fail
    all_goals go_meet
    · have bA := bel_after hb3 (Disk.bel_one w3 (.cells #[.slice xa xn xc, .slice ya yn yc] 27))
      exact ⟨w3.heap.size, .slice xa xn xc, .slice ya yn yc, rfl, hb3.size, cell_new w3 _ 27 _ rfl 0 _ rfl, NS.later (B := W0.heap.size) ⟨hN.1, hN.2.2.1, hN.2.2.2.2.1⟩ (Disk.bel_one _ _), HR0.out.later (bel_after (Below.refl _ _).drew bA), bel_after hb0.drew bA⟩
    · have hS3 : NS (W0.heap.size + 1) w3 (.slice xa xn xc) (doneS ss (W.take p)) := ⟨hN.1, hN.2.2.1, fun b e => by have := hN.2.2.2.2.1 b e; simpa using this⟩
      have P1 := (hS3.store (b := W0.heap.size) (o := 0) (.slice xa xn xc) (Nat.lt_succ_self _)).store (b := W0.heap.size) (o := 1) (.slice ya yn yc) (Nat.lt_succ_self _)
      have bA : Below W0.heap.size W0 ((w3.setCell ⟨W0.heap.size, 0, none⟩ (.slice xa xn xc)).setCell ⟨W0.heap.size, 1, none⟩ (.slice ya yn yc)) := ((bel_after (Disk.bel_one _ _).drew hb3).setCell (p := ⟨W0.heap.size, 0, none⟩) (Nat.le_refl _) _).setCell (p := ⟨W0.heap.size, 1, none⟩) (Nat.le_refl _) _
      have q0 : ((w3.setCell ⟨W0.heap.size, 0, none⟩ (.slice xa xn xc)).setCell ⟨W0.heap.size, 1, none⟩ (.slice ya yn yc)).cell? ⟨W0.heap.size, 0, none⟩ = some (.slice xa xn xc) := by
        rw [World.cell?_setCell_other _ _ _ _ (by simp)]
        exact World.cell?_setCell_same _ _ _ zc0
      exact ⟨W0.heap.size, .slice xa xn xc, .slice ya yn yc, rfl, Nat.le_refl _, q0, P1.mono (Nat.le_succ _), HR0.out.later bA, bel_after hb0 bA⟩
  case rest =>
    obtain ⟨SB, u1, u2, rfl, hSB, s0, hsr, hR, hbw⟩ := hcut
    obtain ⟨ua, un, uc, hu1⟩ := hsr.s1
    subst hu1
    have bLt : b < w.heap.size := by
      obtain ⟨_, _, e, hh⟩ := hw
      simp only [Value.slice.injEq] at e
      obtain ⟨rfl, _, _⟩ := e
      obtain ⟨b2, o2, e2, c0, _⟩ := hh 0 (by omega)
      cases e2
      exact World.block_lt_of_cell? _ _ c0
    have q0 := hR.1
    have q1 := hR.2.1
    have f0 := hR.2.2.1
    have f1 := hR.2.2.2.1
    have nes : ¬ SB = w.heap.size + 1 := by omega
    have nes' : ¬ w.heap.size + 1 = SB := by omega
    have hwd := WR_drop (p := p) (m := 1) (cap' := c + 1) (hw.later hbw) hl
    have hpc : ¬ c + 1 = 0 := by omega
    go_wp2
    go_region
    all_goals go_wp2
    have P1 := (hsr.store (b := w.heap.size + 1) (o := 0) (.slice ua un uc) (by omega)).store (b := w.heap.size + 1) (o := 1) (.slice (some ⟨b, p * 2, none⟩) 1 (c + 1)) (by omega)
    have P2 := (hbw.setCell (p := ⟨w.heap.size + 1, 0, none⟩) (by simp) (.slice ua un uc)).setCell (p := ⟨w.heap.size + 1, 1, none⟩) (by simp) (.slice (some ⟨b, p * 2, none⟩) 1 (c + 1))
    rw [Nat.zero_add] at hwd
    have P3 := (hwd.grown (grown_set wc (w.heap.size + 1) 0 (.slice ua un uc)) (.inr (by simp [Value.ownBlock]; omega))).grown (grown_set _ (w.heap.size + 1) 1 (.slice (some ⟨b, p * 2, none⟩) 1 (c + 1))) (.inr (by simp [Value.ownBlock]; omega))
    exact bodyPost_ret (v := .agg #[.slice ua un uc, .slice (some ⟨b, p * 2, none⟩) 1 (c + 1)]) (by simp [results, Tryz.results28, go_sem, q0, q1]) rfl ⟨_, _, rfl, P1.2.1, P3, P2.drew⟩
end Go.Proofs.YtjclpbaiiklhcaaGreatDoor
