/- The walk of the law on Crash. -/
import Derived.Test.YtkalbamigadgnaaImplCrash
import Derived.Test.YtkalbamigadgnaaBools2
import Derived.Test.YtkalbamigadgnaaDk
import Derived.Test.YtkalbamigadgnaaSz
import Derived.Deep.RegionWith
namespace Go.Proofs.Ytkalbamigadgnaa
open Go.RowKit

theorem crashS_length (bs : List Bool) (tn : Int) (ss : List ByteArray) (ws : List Wr) : (crashS bs tn ss ws).length ≤ ss.length := by
  unfold crashS
  split
  · rw [crashN_length]; exact Nat.le_refl _
  · simp

/-- Flags whose row lies in a block from lo on and below hi. -/
structure BK (lo hi : Nat) (w : World) (v : Value) (bs : List Bool) : Prop where
  os : OS w 4 1 v bs.length
  lr : LR w v bs
  r : ∀ b, rowOf v bs.length = some b → lo ≤ b ∧ b < hi

theorem BK.of {lo : Nat} {w : World} {v : Value} {bs : List Bool} (h : NB lo w v bs) : BK lo w.heap.size w v bs :=
  ⟨h.1, h.2.1, fun b e => ⟨h.2.2 b e, h.1.row b e⟩⟩
theorem BK.later {lo hi : Nat} {w w' : World} {v : Value} {bs : List Bool} (h : BK lo hi w v bs) (hb : Below w.heap.size w w') : BK lo hi w' v bs := ⟨h.os.later hb, h.lr.later hb, h.r⟩
theorem BK.s {lo hi : Nat} {w : World} {v : Value} {bs : List Bool} (h : BK lo hi w v bs) : ∃ ao n cap, v = .slice ao n cap := by
  obtain ⟨ao, cap, e, _⟩ := h.os
  exact ⟨ao, _, cap, e⟩
theorem LR.two {w w' : World} {v : Value} {bs : List Bool} {r1 r2 : Option Nat} (h : LR w v bs) (T : Two w w' r1 r2) (h1 : ∀ b, rowOf v bs.length = some b → some b ≠ r1 ∧ some b ≠ r2) : LR w' v bs := by
  obtain ⟨ao, cap, rfl, h⟩ := h
  refine ⟨ao, cap, rfl, fun i hi => ?_⟩
  obtain ⟨b, o, rfl, hc⟩ := h i hi
  obtain ⟨e1, e2⟩ := h1 b (by rw [rowOf, if_neg (by omega)]; rfl)
  exact ⟨b, o, rfl, T.cell hc e1 e2⟩
theorem BK.two {lo hi lo' hi' : Nat} {w w' : World} {v : Value} {bs : List Bool} {r1 r2 : Option Nat} (h : BK lo hi w v bs) (T : Two w w' r1 r2) (hr1 : ∀ b, r1 = some b → lo' ≤ b ∧ b < hi') (hr2 : ∀ b, r2 = some b → lo' ≤ b ∧ b < hi') (hd : hi ≤ lo' ∨ hi' ≤ lo) : BK lo hi w' v bs := by
  have key : ∀ b, lo ≤ b ∧ b < hi → some b ≠ r1 ∧ some b ≠ r2 := fun b hb => ⟨in_ne hr1 (by omega), in_ne hr2 (by omega)⟩
  exact ⟨h.os.two T (fun b e => key b (h.r b e)), h.lr.two T (fun b e => key b (h.r b e)), h.r⟩

set_option maxRecDepth 100000 in
set_option maxHeartbeats 4000000 in
theorem lawCrash_any (v1 v2 vl : Value) (ss : List ByteArray) (ws : List Wr) (bs : List Bool) (tn : Int) (w : World) (hv1 : SR w v1 ss) (hv2 : WR w v2 ws) (hvl : LR w vl bs) (h1 : ss.length ≤ 10000000000000) (h2 : ws.length ≤ 10000000000000) (h3 : bs.length ≤ 200000000000000) :
    Calls Try.prog 8 #[.agg #[v1, v2], vl, .int .i64 tn] w fun e w' => e = .returned (.bool true) ∧ Below w.heap.size w w' := by
  have hvl' := hvl
  obtain ⟨lo, lc, rfl, hll⟩ := hvl
  clear hll
  have HVL : Hid (LR w (.slice lo bs.length lc) bs) := hvl'
  clear hvl'
  have hb0 := bel_one w (.cells #[v1, v2] 25)
  have k0 := B2.new w 25 v1 v2
  have a0 := hv1.later hb0
  have b0 := hv2.later hb0
  by_cases hlen : (1048576 : Int) < (bs.length : Int)
  · go_enter Try.func8, Try.ntmps8
    go_wp2
    go_ret
    exact ⟨rfl, hb0⟩
  go_enter Try.func8, Try.ntmps8
  go_wp2_with (fail)
  refine (szDisk_any _ _ ss ws _ _ a0 b0 (by omega) (by omega)).mono ?_
  rintro e w1 ⟨⟨y, rfl⟩, hb1⟩
  have hbw1 : Below w.heap.size w w1 := hb0.trans (hb1.mono (by simp))
  have a1 := a0.later hb1
  have b1 := b0.later hb1
  have k1 := k0.later hb1
  obtain ⟨c0, c1⟩ := k1
  clear k0 a0 b0
  by_cases hy : y < 0
  · go_wp2
    go_ret
    exact ⟨rfl, hbw1⟩
  go_wp2_with (fail)
  refine (toDisk_any _ _ ss ws _ a1 b1 h1 h2).mono ?_
  rintro e w1b ⟨p1, p2, rfl, hP, hb1b⟩
  have hbw1b := bel_then hbw1 hbw1.size hb1b
  have a1b := a1.later hb1b
  have b1b := b1.later hb1b
  have k1b : B2 w1b w.heap.size v1 v2 := B2.later ⟨c0, c1⟩ hb1b
  clear c0 c1 a1 b1 hbw1
  go_wp2_with (fail)
  refine (toBoolS_any _ bs _ (HVL.out.later hbw1b) h3).mono ?_
  rintro e w2 ⟨vb, rfl, hNB, hb2⟩
  have hbw2 := bel_then hbw1b hbw1b.size hb2
  have a2 := a1b.later hb2
  have b2 := b1b.later hb2
  have k2 := k1b.later hb2
  have hP1 := hP.2.2.1.later hb2
  have hP2 := hP.2.2.2.1.later hb2
  clear a1b b1b hbw1b hP k1b
  go_wp2_with (fail)
  refine (specCrash_any _ _ _ ss ws bs _ _ hP1 hP2 hNB.2.1 h1 h2 (by omega)).mono ?_
  rintro e w3 ⟨g1, g2, rfl, hA, hb3⟩
  have hbw3 := bel_then hbw2 hbw2.size hb3
  have a3 := a2.later hb3
  have b3 := b2.later hb3
  have k3 := k2.later hb3
  have hLS : (crashS bs tn ss ws).length ≤ ss.length := crashS_length bs tn ss ws
  generalize hHS : crashS bs tn ss ws = HS at *
  have HHS : Hid (crashS bs tn ss ws = HS) := hHS
  clear hHS
  have A3 := DK.of hA
  obtain ⟨ga, gn, gc, rfl⟩ := A3.s1
  obtain ⟨ha, hn, hc, rfl⟩ := A3.s2
  have z3 : w.heap.size < w3.heap.size := k3.lt
  obtain ⟨c0, c1⟩ := k3
  clear a2 b2 hbw2 hP1 hP2 hNB k2 hA
  have hB4 := bel_one w3 (.cells #[.slice ga gn gc, .slice ha hn hc] 30)
  have a4 := a3.later hB4
  have b4 := b3.later hB4
  have hbw4 := bel_then hbw3 hbw3.size hB4
  go_wp2_with (fail)
  refine (toDisk_any _ _ ss ws _ a4 b4 h1 h2).mono ?_
  rintro e w4 ⟨q1, q2, rfl, hQ, hb4⟩
  have Q4 := DK.of hQ
  have A4 := (A3.later hB4).later hb4
  have k4 : B2 w4 w.heap.size v1 v2 := (B2.later ⟨c0, c1⟩ hB4).later hb4
  have KA4 := (B2.new w3 30 (.slice ga gn gc) (.slice ha hn hc)).later hb4
  have a5 := a4.later hb4
  have b5 := b4.later hb4
  have z4 : w3.heap.size + 1 ≤ w4.heap.size := by have := hb4.size; simpa using this
  have hbw5 := bel_then hbw4 hbw4.size hb4
  obtain ⟨qa, qn, qc, rfl⟩ := Q4.s1
  obtain ⟨ra, rn, rc, rfl⟩ := Q4.s2
  have y4 : w.heap.size < w4.heap.size := k4.lt
  have y5 : w3.heap.size < w4.heap.size := KA4.lt
  clear a3 b3 a4 b4 hbw3 hbw4 hQ A3 c0 c1
  have hB5 := bel_one w4 (.cells #[.slice qa qn qc, .slice ra rn rc] 30)
  have Q5 := Q4.later hB5
  rw [World.size_alloc] at Q5
  have hbw5b := bel_then hbw5 hbw5.size hB5
  go_wp2_with (fail)
  refine (toBoolS_any _ bs _ (HVL.out.later hbw5b) h3).mono ?_
  rintro e w4b ⟨vx, rfl, hNX, hb4b⟩
  rw [World.size_alloc] at hNX
  have X5 := BK.of hNX
  have Q5b := Q5.later hb4b
  have A5 := (A4.later hB5).later hb4b
  have a5b := (a5.later hB5).later hb4b
  have b5b := (b5.later hB5).later hb4b
  have k5b := (k4.later hB5).later hb4b
  have KA5 := (KA4.later hB5).later hb4b
  have KX5 := (B2.new w4 30 (.slice qa qn qc) (.slice ra rn rc)).later hb4b
  have z4b : w4.heap.size + 1 ≤ w4b.heap.size := by have := hb4b.size; simpa using this
  have hbw5c := bel_then hbw5b (by simp; have := hbw5.size; omega) hb4b
  obtain ⟨xa, xn, xc, rfl⟩ := X5.s
  clear hNX a5 b5 k4 KA4 Q4 Q5 A4 hbw5 hbw5b
  obtain ⟨x0, x1⟩ := KX5
  go_wp2_with (fail)
  refine (implCrash_any _ _ _ ss ws bs _ _ Q5b.sr Q5b.wr X5.lr h1 h2).mono ?_
  rintro e w5 ⟨t1, t2, rfl, hG, hb5⟩
  rw [HHS.out] at hG
  have G5 := DK.of hG
  have Q6 := Q5b.later hb5
  have X6 := X5.later hb5
  have A6 := A5.later hb5
  have a6 := a5b.later hb5
  have b6 := b5b.later hb5
  have k6 := k5b.later hb5
  have KA6 := KA5.later hb5
  have KX6 : B2 w5 w4.heap.size (.slice qa qn qc) (.slice ra rn rc) := B2.later ⟨x0, x1⟩ hb5
  have z5 : w4b.heap.size ≤ w5.heap.size := hb5.size
  have hbw6 := bel_then hbw5c hbw5c.size hb5
  obtain ⟨ta, tn', tc, rfl⟩ := G5.s1
  obtain ⟨sa, sn, sc, rfl⟩ := G5.s2
  clear x0 x1 a5b b5b k5b hbw5c Q5b X5 A5 KA5 hG
  have hB6 := bel_one w5 (.cells #[.slice ta tn' tc, .slice sa sn sc] 30)
  have G7 := G5.later hB6
  have A7 := A6.later hB6
  have y6 : w3.heap.size < w5.heap.size := by omega
  have y7 : w4.heap.size < w5.heap.size := by omega
  obtain ⟨d0, d1⟩ := KA6
  go_wp2_with (fail)
  refine (eqDisk_any _ _ HS HS [] [] _ (G7.dr' (by omega) (by simp)) (A7.dr' (by omega) (by simp))).mono ?_
  rintro e w6 ⟨rfl, hb6⟩
  have G8 := G7.later hb6
  have A8 := A7.later hb6
  have Q8 := (Q6.later hB6).later hb6
  have X8 := (X6.later hB6).later hb6
  have a8 := (a6.later hB6).later hb6
  have b8 := (b6.later hB6).later hb6
  have k8 := (k6.later hB6).later hb6
  have KA8 : B2 w6 w3.heap.size (.slice ga gn gc) (.slice ha hn hc) := (B2.later ⟨d0, d1⟩ hB6).later hb6
  have KX8 := (KX6.later hB6).later hb6
  have KG8 := (B2.new w5 30 (.slice ta tn' tc) (.slice sa sn sc)).later hb6
  have z6 : w5.heap.size + 1 ≤ w6.heap.size := by have := hb6.size; simpa using this
  have hbw8 := bel_then (bel_then hbw6 hbw6.size hB6) (by simp; have := hbw6.size; omega) hb6
  clear d0 d1 a6 b6 k6 hbw6 G5 G7 A6 A7 Q6 X6 KX6
  obtain ⟨c0, c1⟩ := k8
  obtain ⟨x0, x1⟩ := KX8
  go_wp2_with (fail)
  have a8d : SR w6.drew v1 ss := a8
  have b8d : WR w6.drew v2 ws := b8
  have Q8d : DK (w3.heap.size + 1) w4.heap.size w6.drew (.slice qa qn qc) (.slice ra rn rc) ss ws := Q8.dr 1
  go_region_with (first | (go_at_call 11; refine (toDisk_any _ _ ss ws _ a8d b8d h1 h2).mono ?_; rintro e w7 ⟨u1, u2, rfl, hU, hb7⟩; have Q8e := Q8d.later hb7; have m2 := cell_later hb7 x0; have m3 := cell_later hb7 x1) | (go_at_call 13; refine (eqDisk_any _ _ ss ss ws ws _ (Q8e.dr' (by omega) (by omega)) (hU.dr (by omega) (by omega))).mono ?_; rintro e w8 ⟨rfl, hb8⟩))
  all_goals
    have B8 : Below w6.heap.size w6 w8 := bel_then ((Below.refl w6.heap.size w6).drew.trans hb7) hb7.size hb8
    have G9 := G8.later B8
    have A9 := A8.later B8
    have Q9 := Q8.later B8
    have X9 := X8.later B8
    have k9 : B2 w8 w.heap.size v1 v2 := B2.later ⟨c0, c1⟩ B8
    have KA9 := KA8.later B8
    have KX9 : B2 w8 w4.heap.size (.slice qa qn qc) (.slice ra rn rc) := B2.later ⟨x0, x1⟩ B8
    have KG9 := KG8.later B8
    have hbw9 := bel_then hbw8 hbw8.size B8
    have s9 := B8.size
    clear G8 A8 Q8 X8 KA8 KG8 hbw8 x0 x1 c0 c1 a8 b8 a8d b8d Q8d Q8e m2 m3 hb7 hb8 hU B8
    go_wp2_with (fail)
    refine (toBoolS_any _ bs _ (HVL.out.later hbw9) h3).mono ?_
    rintro e w8b ⟨vy, rfl, hNY, hb8b⟩
    have X9b := X9.later hb8b
    go_wp2_with (fail)
    refine (eqBoolS_any _ _ bs bs _ X9b.lr hNY.2.1 (by omega) (by omega)).mono ?_
    rintro e w8c ⟨rfl, hb8c⟩
    have B8c := bel_then hb8b hb8b.size hb8c
    have G9c := G9.later B8c
    have A9c := A9.later B8c
    have Q9c := Q9.later B8c
    have X9c := X9.later B8c
    have k9c := k9.later B8c
    have KA9c := KA9.later B8c
    have KX9c := KX9.later B8c
    have KG9c := KG9.later B8c
    have hbw9c := bel_then hbw9 hbw9.size B8c
    have s9c := B8c.size
    clear G9 A9 Q9 X9 X9b k9 KA9 KX9 KG9 hbw9 hNY hb8b hb8c B8c
    obtain ⟨x0, x1⟩ := KX9c
    have teb : decide (bs = bs) = true := by simp
    go_wp2_with (fail)
    refine (markDisk_any _ _ ss.length ws.length _ _ Q9c.os1 Q9c.os2 (by omega) (by omega)).mono ?_
    rintro e w9 ⟨rfl, T9, _, _⟩
    have G9d := G9c.two T9 Q9c.r1 Q9c.r2 (.inr (by omega))
    have A9d := A9c.two T9 Q9c.r1 Q9c.r2 (.inl (by omega))
    have X9d := X9c.two T9 Q9c.r1 Q9c.r2 (.inr (by omega))
    have k9d := k9c.two T9 Q9c.r1 Q9c.r2 (.inl (by omega))
    have KA9d := KA9c.two T9 Q9c.r1 Q9c.r2 (.inl (by omega))
    have KG9d := KG9c.two T9 Q9c.r1 Q9c.r2 (.inr (by omega))
    have hbw9d := hbw9c.trans (T9.below (B := w.heap.size) hbw9c.size (fun b e => by have := Q9c.r1 b e; omega) (fun b e => by have := Q9c.r2 b e; omega))
    have s9d := T9.size
    clear G9c A9c Q9c X9c k9c KA9c KG9c hbw9c x0 x1 T9
    go_wp2_with (fail)
    refine (markBoolS_any _ bs.length _ _ X9d.os (by omega) (by omega)).mono ?_
    rintro e w9b ⟨rfl, T9b⟩
    have T9 : Two w9 w9b _ none := Two.mk' (Below.refl _ _) T9b (World.grownBy.refl _ none)
    have rno : ∀ b, (none : Option Nat) = some b → (w4.heap.size + 1) ≤ b ∧ b < w4b.heap.size := fun b e => by cases e
    have G10 := G9d.two T9 X9d.r rno (.inr (by omega))
    have A10 := A9d.two T9 X9d.r rno (.inl (by omega))
    have k10 := k9d.two T9 X9d.r rno (.inl (by omega))
    have KA10 := KA9d.two T9 X9d.r rno (.inl (by omega))
    have KG10 := KG9d.two T9 X9d.r rno (.inr (by omega))
    have hbw10 := hbw9d.trans (T9.below (B := w.heap.size) hbw9d.size (fun b e => by have := X9d.r b e; omega) (fun b e => by cases e))
    have s10 := T9.size
    have tk : decide ((1 : Int) + ↑ss.length + 2 * ↑ws.length + ↑bs.length < 0) = false := by simp; omega
    clear G9d A9d X9d k9d KA9d KG9d hbw9d T9 T9b rno
    obtain ⟨d0, d1⟩ := KA10
    obtain ⟨f0, f1⟩ := KG10
    go_wp2_with (fail)
    refine (eqDisk_any _ _ HS HS [] [] _ (G10.dr' (by omega) (by simp)) (A10.dr' (by omega) (by simp))).mono ?_
    rintro e w10 ⟨rfl, hb10⟩
    have G11 := G10.later hb10
    have A11 := A10.later hb10
    have k11 := k10.later hb10
    have KA11 : B2 w10 w3.heap.size (.slice ga gn gc) (.slice ha hn hc) := B2.later ⟨d0, d1⟩ hb10
    have KG11 : B2 w10 w5.heap.size (.slice ta tn' tc) (.slice sa sn sc) := B2.later ⟨f0, f1⟩ hb10
    have hbw11 := bel_then hbw10 hbw10.size hb10
    have s11 := hb10.size
    clear G10 A10 k10 d0 d1 f0 f1 hbw10 tk
    obtain ⟨f0, f1⟩ := KG11
    go_wp2_with (fail)
    refine (markDisk_any _ _ HS.length 0 _ _ G11.os1 G11.os2 (by omega) (by omega)).mono ?_
    rintro e w11 ⟨rfl, T11, hS11, hL11⟩
    have A12 := A11.two T11 G11.r1 G11.r2 (.inl (by omega))
    have k12 := k11.two T11 G11.r1 G11.r2 (.inl (by omega))
    have KA12 := KA11.two T11 G11.r1 G11.r2 (.inl (by omega))
    have KG12 : B2 w11 w5.heap.size (.slice ta tn' tc) (.slice sa sn sc) := B2.two ⟨f0, f1⟩ T11 G11.r1 G11.r2 (.inr (by omega))
    have hbw12 := hbw11.trans (T11.below (B := w.heap.size) hbw11.size (fun b e => by have := G11.r1 b e; omega) (fun b e => by have := G11.r2 b e; omega))
    have s12 := T11.size
    clear A11 k11 KA11 f0 f1 hbw11 T11 G11
    obtain ⟨f0, f1⟩ := KG12
    go_wp2_with (fail)
    refine (heldDisk_any _ _ HS.length 0 _ _ hS11 hL11 (by omega) (by omega)).mono ?_
    rintro e w12 ⟨rfl, hb12⟩
    have A13 := A12.later hb12
    have k13 := k12.later hb12
    have KA13 := KA12.later hb12
    have KG13 : B2 w12 w5.heap.size (.slice ta tn' tc) (.slice sa sn sc) := B2.later ⟨f0, f1⟩ hb12
    have hS13 := hS11.later hb12
    have hL13 := hL11.later hb12
    have hbw13 := bel_then hbw12 hbw12.size hb12
    have s13 := hb12.size
    clear A12 k12 KA12 f0 f1 hS11 hL11 hbw12
    obtain ⟨c0, c1⟩ := k13
    go_wp2_with (fail)
    refine (toDisk_any _ _ ss ws _ (hv1.later hbw13) (hv2.later hbw13) h1 h2).mono ?_
    rintro e w13 ⟨i1, i2, rfl, hI, hb13⟩
    have hbw13b := bel_then hbw13 hbw13.size hb13
    go_wp2_with (fail)
    refine (toBoolS_any _ bs _ (HVL.out.later hbw13b) h3).mono ?_
    rintro e w13b ⟨vz, rfl, hNZ, hb13b⟩
    have hI1 := hI.2.2.1.later hb13b
    have hI2 := hI.2.2.2.1.later hb13b
    go_wp2_with (fail)
    refine (implCrash_any _ _ _ ss ws bs _ _ hI1 hI2 hNZ.2.1 h1 h2).mono ?_
    rintro e w14 ⟨j1, j2, rfl, hJ, hb14⟩
    rw [HHS.out] at hJ
    have J14 := DK.of hJ
    obtain ⟨ja, jn, jc, rfl⟩ := J14.s1
    obtain ⟨la, ln, lc', rfl⟩ := J14.s2
    have B13 := bel_then hb13 hb13.size hb13b
    have B14 := bel_then B13 B13.size hb14
    have hB15 := bel_one w14 (.cells #[.slice ja jn jc, .slice la ln lc'] 30)
    have A15 := (A13.later B14).later hB15
    have J15 := J14.later hB15
    have KA14 := KA13.later B14
    have KG14 := KG13.later B14
    have hS15 := (hS13.later B14).later hB15
    have hL15 := (hL13.later B14).later hB15
    have hbw15 := bel_then (bel_then hbw13 hbw13.size B14) (Nat.le_trans hbw13.size B14.size) hB15
    have y14 : w3.heap.size < w14.heap.size := KA14.lt
    have y15 : w5.heap.size < w14.heap.size := KG14.lt
    clear A13 KA13 KG13 hS13 hL13 hbw13 hbw13b J14 hI hI1 hI2 hNZ hJ c0 c1 hb13 hb13b hb14 B13 B14
    obtain ⟨d0, d1⟩ := KA14
    obtain ⟨f0, f1⟩ := KG14
    go_wp2_with (fail)
    refine (eqDisk_any _ _ HS HS [] [] _ (J15.dr' (by omega) (by simp)) (A15.dr' (by omega) (by simp))).mono ?_
    rintro e w15 ⟨rfl, hb15⟩
    have KG15 : B2 w15 w5.heap.size (.slice ta tn' tc) (.slice sa sn sc) := (B2.later ⟨f0, f1⟩ hB15).later hb15
    have hS16 := hS15.later hb15
    have hL16 := hL15.later hb15
    have hbw16 := bel_then hbw15 hbw15.size hb15
    clear A15 J15 d0 d1 f0 f1 hS15 hL15 hbw15 hB15
    obtain ⟨f0, f1⟩ := KG15
    go_wp2_with (fail)
    refine (heldDisk_any _ _ HS.length 0 _ _ hS16 hL16 (by omega) (by omega)).mono ?_
    rintro e w16 ⟨rfl, hb16⟩
    have hbw17 := bel_then hbw16 hbw16.size hb16
    go_wp2
    go_ret
    exact ⟨rfl, hbw17⟩

end Go.Proofs.Ytkalbamigadgnaa
