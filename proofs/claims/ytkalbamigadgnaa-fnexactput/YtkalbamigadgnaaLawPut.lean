/- The walk of the law on Put. -/
import Derived.Test.YtkalbamigadgnaaImplPut
import Derived.Test.YtkalbamigadgnaaDk
import Derived.Test.YtkalbamigadgnaaSz
import Derived.Deep.RegionWith
namespace Go.Proofs.Ytkalbamigadgnaa
open Go.RowKit

theorem putS_length (ss : List ByteArray) (ws : List Wr) (sec : Int) (txt : ByteArray) : (putS ss ws sec txt).length ≤ ss.length := by
  unfold putS
  split <;> simp
theorem putW_length (ss : List ByteArray) (ws : List Wr) (sec : Int) (txt : ByteArray) : (putW ss ws sec txt).length ≤ ws.length + 1 := by
  unfold putW
  split <;> simp

set_option maxRecDepth 100000 in
set_option maxHeartbeats 4000000 in
theorem lawPut_any (v1 v2 : Value) (ss : List ByteArray) (ws : List Wr) (sec : Int) (txt : ByteArray) (w : World) (hv1 : SR w v1 ss) (hv2 : WR w v2 ws) (h1 : ss.length ≤ 10000000000000) (h2 : ws.length ≤ 10000000000000) :
    Calls Try.prog 5 #[.agg #[v1, v2], .int .i64 sec, .string txt] w fun e w' => e = .returned (.bool true) ∧ Below w.heap.size w w' := by
  have hb0 := bel_one w (.cells #[v1, v2] 25)
  have k0 := B2.new w 25 v1 v2
  have a0 := hv1.later hb0
  have b0 := hv2.later hb0
  by_cases hlen : (1048576 : Int) < (txt.size : Int)
  · go_enter Try.func5, Try.ntmps5
    go_wp2
    go_ret
    exact ⟨rfl, hb0⟩
  go_enter Try.func5, Try.ntmps5
  go_wp2_with (fail)
  refine (szDisk_any _ _ ss ws _ _ a0 b0 (by omega) (by omega)).mono ?_
  rintro e w1 ⟨⟨y, rfl⟩, hb1⟩
  have hbw1 : Below w.heap.size w w1 := hb0.trans (hb1.mono (by simp))
  have a1 := a0.later hb1
  have b1 := b0.later hb1
  have k1 := k0.later hb1
  obtain ⟨c0, c1⟩ := k1
  clear k0 a0 b0
  by_cases hy : y < 0
  · go_wp2
    go_ret
    exact ⟨rfl, hbw1⟩
  go_wp2_with (fail)
  refine (toDisk_any _ _ ss ws _ a1 b1 h1 h2).mono ?_
  rintro e w2 ⟨p1, p2, rfl, hP, hb2⟩
  have hbw2 := bel_then hbw1 hbw1.size hb2
  have a2 := a1.later hb2
  have b2 := b1.later hb2
  have k2 : B2 w2 w.heap.size v1 v2 := B2.later ⟨c0, c1⟩ hb2
  clear c0 c1 a1 b1 hbw1
  go_wp2_with (fail)
  refine (specPut_any _ _ ss ws _ _ _ hP.2.2.1 hP.2.2.2.1 h1 h2).mono ?_
  rintro e w3 ⟨g1, g2, rfl, hA, hb3⟩
  have hbw3 := bel_then hbw2 hbw2.size hb3
  have a3 := a2.later hb3
  have b3 := b2.later hb3
  have k3 := k2.later hb3
  have hLS : (putS ss ws sec txt).length ≤ ss.length := putS_length ss ws sec txt
  have hLW : (putW ss ws sec txt).length ≤ ws.length + 1 := putW_length ss ws sec txt
  generalize hHS : putS ss ws sec txt = HS at *
  generalize hHW : putW ss ws sec txt = HW at *
  generalize hPB : putOk ss ws sec txt = PB at *
  have HHS : Hid (putS ss ws sec txt = HS) := hHS
  have HHW : Hid (putW ss ws sec txt = HW) := hHW
  have HPB : Hid (putOk ss ws sec txt = PB) := hPB
  clear hHS hHW hPB
  have A3 := DK.of hA
  obtain ⟨ga, gn, gc, rfl⟩ := A3.s1
  obtain ⟨ha, hn, hc, rfl⟩ := A3.s2
  have z3 : w.heap.size < w3.heap.size := k3.lt
  obtain ⟨c0, c1⟩ := k3
  clear a2 b2 hbw2 hP k2 hA
  have hB4 := bel_one w3 (.cells #[.slice ga gn gc, .slice ha hn hc] 30)
  have a4 := a3.later hB4
  have b4 := b3.later hB4
  have hbw4 := bel_then hbw3 hbw3.size hB4
  go_wp2_with (fail)
  refine (toDisk_any _ _ ss ws _ a4 b4 h1 h2).mono ?_
  rintro e w4 ⟨q1, q2, rfl, hQ, hb4⟩
  have Q4 := DK.of hQ
  have A4 := (A3.later hB4).later hb4
  have k4 : B2 w4 w.heap.size v1 v2 := (B2.later ⟨c0, c1⟩ hB4).later hb4
  have KA4 := (B2.new w3 30 (.slice ga gn gc) (.slice ha hn hc)).later hb4
  have a5 := a4.later hb4
  have b5 := b4.later hb4
  have z4 : w3.heap.size + 1 ≤ w4.heap.size := by have := hb4.size; simpa using this
  have hbw5 := bel_then hbw4 hbw4.size hb4
  obtain ⟨qa, qn, qc, rfl⟩ := Q4.s1
  obtain ⟨ra, rn, rc, rfl⟩ := Q4.s2
  have y4 : w.heap.size < w4.heap.size := k4.lt
  have y5 : w3.heap.size < w4.heap.size := KA4.lt
  obtain ⟨d0, d1⟩ := KA4
  obtain ⟨c0, c1⟩ := k4
  clear a3 b3 a4 b4 hbw3 hbw4 hQ A3
  have hB5 := bel_one w4 (.cells #[.slice qa qn qc, .slice ra rn rc] 30)
  have Q5 := Q4.later hB5
  rw [World.size_alloc] at Q5
  go_wp2_with (fail)
  refine (implPut_any _ _ ss ws _ _ _ Q5.sr Q5.wr h1 h2).mono ?_
  rintro e w5 ⟨t1, t2, he, hG, hb5⟩
  rw [HPB.out] at he
  subst he
  rw [HHS.out, HHW.out] at hG
  have G5 := DK.of hG
  have Q6 := Q5.later hb5
  have A6 := (A4.later hB5).later hb5
  have a6 := (a5.later hB5).later hb5
  have b6 := (b5.later hB5).later hb5
  have k6 : B2 w5 w.heap.size v1 v2 := (B2.later ⟨c0, c1⟩ hB5).later hb5
  have KA6 : B2 w5 w3.heap.size (.slice ga gn gc) (.slice ha hn hc) := (B2.later ⟨d0, d1⟩ hB5).later hb5
  have KX6 := (B2.new w4 30 (.slice qa qn qc) (.slice ra rn rc)).later hb5
  have z5 : w4.heap.size + 1 ≤ w5.heap.size := by have := hb5.size; simpa using this
  have hbw6 := bel_then (bel_then hbw5 hbw5.size hB5) (by simp; have := hbw5.size; omega) hb5
  rw [World.size_alloc] at G5
  obtain ⟨ta, tn, tc, rfl⟩ := G5.s1
  obtain ⟨sa, sn, sc, rfl⟩ := G5.s2
  clear c0 c1 d0 d1 a5 b5 hbw5 Q4 Q5 A4 hG
  have hB6 := bel_one w5 (.cells #[.slice ta tn tc, .slice sa sn sc] 30)
  have G7 := G5.later hB6
  have A7 := A6.later hB6
  have y6 : w3.heap.size < w5.heap.size := by omega
  have y7 : w4.heap.size < w5.heap.size := by omega
  obtain ⟨d0, d1⟩ := KA6
  go_wp2_with (fail)
  refine (eqDisk_any _ _ HS HS HW HW _ (G7.dr' (by omega) (by omega)) (A7.dr' (by omega) (by omega))).mono ?_
  rintro e w6 ⟨rfl, hb6⟩
  have G8 := G7.later hb6
  have A8 := A7.later hb6
  have Q8 := (Q6.later hB6).later hb6
  have a8 := (a6.later hB6).later hb6
  have b8 := (b6.later hB6).later hb6
  have k8 := (k6.later hB6).later hb6
  have KA8 : B2 w6 w3.heap.size (.slice ga gn gc) (.slice ha hn hc) := (B2.later ⟨d0, d1⟩ hB6).later hb6
  have KX8 := (KX6.later hB6).later hb6
  have KG8 := (B2.new w5 30 (.slice ta tn tc) (.slice sa sn sc)).later hb6
  have z6 : w5.heap.size + 1 ≤ w6.heap.size := by have := hb6.size; simpa using this
  have hbw8 := bel_then (bel_then hbw6 hbw6.size hB6) (by simp; have := hbw6.size; omega) hb6
  clear d0 d1 a6 b6 k6 hbw6 G5 G7 A6 A7 Q6 KX6
  obtain ⟨c0, c1⟩ := k8
  obtain ⟨x0, x1⟩ := KX8
  go_wp2_with (fail)
  have a8d : SR w6.drew v1 ss := a8
  have b8d : WR w6.drew v2 ws := b8
  have Q8d : DK (w3.heap.size + 1) w4.heap.size w6.drew (.slice qa qn qc) (.slice ra rn rc) ss ws := Q8.dr 1
  go_region_with (first | (go_at_call 11; refine (toDisk_any _ _ ss ws _ a8d b8d h1 h2).mono ?_; rintro e w7 ⟨u1, u2, rfl, hU, hb7⟩; have Q8e := Q8d.later hb7; have m2 := cell_later hb7 x0; have m3 := cell_later hb7 x1) | (go_at_call 13; refine (eqDisk_any _ _ ss ss ws ws _ (Q8e.dr' (by omega) (by omega)) (hU.dr (by omega) (by omega))).mono ?_; rintro e w8 ⟨rfl, hb8⟩))
  all_goals
    have B8 : Below w6.heap.size w6 w8 := bel_then ((Below.refl w6.heap.size w6).drew.trans hb7) hb7.size hb8
    have G9 := G8.later B8
    have A9 := A8.later B8
    have Q9 := Q8.later B8
    have k9 : B2 w8 w.heap.size v1 v2 := B2.later ⟨c0, c1⟩ B8
    have KA9 := KA8.later B8
    have KX9 : B2 w8 w4.heap.size (.slice qa qn qc) (.slice ra rn rc) := B2.later ⟨x0, x1⟩ B8
    have KG9 := KG8.later B8
    have hbw9 := bel_then hbw8 hbw8.size B8
    have s9 := B8.size
    clear G8 A8 Q8 KA8 KG8 hbw8 x0 x1 c0 c1 a8 b8 a8d b8d Q8d Q8e m2 m3 hb7 hb8 hU
    obtain ⟨x0, x1⟩ := KX9
    go_wp2_with (fail)
    refine (markDisk_any _ _ ss.length ws.length _ _ Q9.os1 Q9.os2 (by omega) (by omega)).mono ?_
    rintro e w9 ⟨rfl, T9, _, _⟩
    have G10 := G9.two T9 Q9.r1 Q9.r2 (.inr (by omega))
    have A10 := A9.two T9 Q9.r1 Q9.r2 (.inl (by omega))
    have k10 := k9.two T9 Q9.r1 Q9.r2 (.inl (by omega))
    have KA10 := KA9.two T9 Q9.r1 Q9.r2 (.inl (by omega))
    have KG10 := KG9.two T9 Q9.r1 Q9.r2 (.inr (by omega))
    have hbw10 := hbw9.trans (T9.below (B := w.heap.size) hbw9.size (fun b e => by have := Q9.r1 b e; omega) (fun b e => by have := Q9.r2 b e; omega))
    have s10 := T9.size
    have tk : decide ((1 : Int) + ↑ss.length + 2 * ↑ws.length < 0) = false := by simp; omega
    clear G9 A9 Q9 k9 KA9 KG9 hbw9 x0 x1 T9
    obtain ⟨d0, d1⟩ := KA10
    obtain ⟨f0, f1⟩ := KG10
    go_wp2_with (fail)
    refine (eqDisk_any _ _ HS HS HW HW _ (G10.dr' (by omega) (by omega)) (A10.dr' (by omega) (by omega))).mono ?_
    rintro e w10 ⟨rfl, hb10⟩
    have G11 := G10.later hb10
    have A11 := A10.later hb10
    have k11 := k10.later hb10
    have KA11 : B2 w10 w3.heap.size (.slice ga gn gc) (.slice ha hn hc) := B2.later ⟨d0, d1⟩ hb10
    have KG11 : B2 w10 w5.heap.size (.slice ta tn tc) (.slice sa sn sc) := B2.later ⟨f0, f1⟩ hb10
    have hbw11 := bel_then hbw10 hbw10.size hb10
    have s11 := hb10.size
    clear G10 A10 k10 d0 d1 f0 f1 hbw10 tk
    obtain ⟨f0, f1⟩ := KG11
    go_wp2_with (fail)
    refine (markDisk_any _ _ HS.length HW.length _ _ G11.os1 G11.os2 (by omega) (by omega)).mono ?_
    rintro e w11 ⟨rfl, T11, hS11, hL11⟩
    have A12 := A11.two T11 G11.r1 G11.r2 (.inl (by omega))
    have k12 := k11.two T11 G11.r1 G11.r2 (.inl (by omega))
    have KA12 := KA11.two T11 G11.r1 G11.r2 (.inl (by omega))
    have KG12 : B2 w11 w5.heap.size (.slice ta tn tc) (.slice sa sn sc) := B2.two ⟨f0, f1⟩ T11 G11.r1 G11.r2 (.inr (by omega))
    have hbw12 := hbw11.trans (T11.below (B := w.heap.size) hbw11.size (fun b e => by have := G11.r1 b e; omega) (fun b e => by have := G11.r2 b e; omega))
    have s12 := T11.size
    clear A11 k11 KA11 f0 f1 hbw11 T11 G11
    obtain ⟨f0, f1⟩ := KG12
    go_wp2_with (fail)
    refine (heldDisk_any _ _ HS.length HW.length _ _ hS11 hL11 (by omega) (by omega)).mono ?_
    rintro e w12 ⟨rfl, hb12⟩
    have A13 := A12.later hb12
    have k13 := k12.later hb12
    have KA13 := KA12.later hb12
    have KG13 : B2 w12 w5.heap.size (.slice ta tn tc) (.slice sa sn sc) := B2.later ⟨f0, f1⟩ hb12
    have hS13 := hS11.later hb12
    have hL13 := hL11.later hb12
    have hbw13 := bel_then hbw12 hbw12.size hb12
    have s13 := hb12.size
    clear A12 k12 KA12 f0 f1 hS11 hL11 hbw12
    obtain ⟨c0, c1⟩ := k13
    go_wp2_with (fail)
    refine (toDisk_any _ _ ss ws _ (hv1.later hbw13) (hv2.later hbw13) h1 h2).mono ?_
    rintro e w13 ⟨i1, i2, rfl, hI, hb13⟩
    go_wp2_with (fail)
    refine (implPut_any _ _ ss ws _ _ _ hI.2.2.1 hI.2.2.2.1 h1 h2).mono ?_
    rintro e w14 ⟨j1, j2, he, hJ, hb14⟩
    rw [HPB.out] at he
    subst he
    rw [HHS.out, HHW.out] at hJ
    have J14 := DK.of hJ
    obtain ⟨ja, jn, jc, rfl⟩ := J14.s1
    obtain ⟨la, ln, lc, rfl⟩ := J14.s2
    have B14 := bel_then hb13 hb13.size hb14
    have hB15 := bel_one w14 (.cells #[.slice ja jn jc, .slice la ln lc] 30)
    have A15 := (A13.later B14).later hB15
    have J15 := J14.later hB15
    have KA14 := KA13.later B14
    have KG14 := KG13.later B14
    have hS15 := (hS13.later B14).later hB15
    have hL15 := (hL13.later B14).later hB15
    have hbw15 := bel_then (bel_then hbw13 hbw13.size B14) (Nat.le_trans hbw13.size B14.size) hB15
    have y14 : w3.heap.size < w14.heap.size := KA14.lt
    have y15 : w5.heap.size < w14.heap.size := KG14.lt
    clear A13 KA13 KG13 hS13 hL13 hbw13 J14 hI hJ c0 c1 hb13 hb14 B14
    obtain ⟨d0, d1⟩ := KA14
    obtain ⟨f0, f1⟩ := KG14
    go_wp2_with (fail)
    refine (eqDisk_any _ _ HS HS HW HW _ (J15.dr' (by omega) (by omega)) (A15.dr' (by omega) (by omega))).mono ?_
    rintro e w15 ⟨rfl, hb15⟩
    have KG15 : B2 w15 w5.heap.size (.slice ta tn tc) (.slice sa sn sc) := (B2.later ⟨f0, f1⟩ hB15).later hb15
    have hS16 := hS15.later hb15
    have hL16 := hL15.later hb15
    have hbw16 := bel_then hbw15 hbw15.size hb15
    clear A15 J15 d0 d1 f0 f1 hS15 hL15 hbw15 hB15
    obtain ⟨f0, f1⟩ := KG15
    go_wp2_with (fail)
    refine (heldDisk_any _ _ HS.length HW.length _ _ hS16 hL16 (by omega) (by omega)).mono ?_
    rintro e w16 ⟨rfl, hb16⟩
    have hbw17 := bel_then hbw16 hbw16.size hb16
    go_wp2
    go_ret
    exact ⟨rfl, hbw17⟩

end Go.Proofs.Ytkalbamigadgnaa
