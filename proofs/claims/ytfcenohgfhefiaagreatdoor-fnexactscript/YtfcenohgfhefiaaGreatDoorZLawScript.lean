/- The law on Script, walked. -/
import Derived.Test.YtfcenohgfhefiaaGreatDoorZScript
import Derived.Test.YtfcenohgfhefiaaGreatDoorZSide
namespace Go.Proofs.YtfcenohgfhefiaaGreatDoor
open Go.RowKit

theorem scriptR_len (ss : List ByteArray) (ws : List Disk.Wr) (bs : List ByteArray) : (scriptR ss ws bs).length ≤ 31 := by
  cases h : scrOk ss ws bs
  · rw [scriptR_no h]; exact Nat.zero_le _
  · rw [scriptR_yes h]
    have := (scrW_length ss bs).2
    have := (scrOk_parts h).2.1
    omega
theorem implScript_v (v1 v2 bv : Value) (ss : List ByteArray) (ws : List Disk.Wr) (bs : List ByteArray) (a0 a1 a2 a3 : Addr) (tg : TypeId) (pg : Value) (w : World) (hc : ∃ ao, v1 = .slice ao ss.length ss.length)
    (hv1 : Disk.SR w v1 ss) (hv2 : Disk.WR w v2 ws) (h1 : ss.length ≤ 10000000000000) (h2 : ws.length ≤ 10000000000000) (hbv : Disk.SR w bv bs) (h3 : bs.length ≤ 10000000000000) (hC : Ctx a0 a1 a2 a3 w) (hG : w.cell? ⟨0, 0, none⟩ = some (.iface tg pg)) :
    Calls Tryz.prog 14 #[.agg #[v1, v2], bv] w fun x w' => (∃ v, x = .returned v ∧ Disk.NW w.heap.size w' v (scriptR ss ws bs)) ∧ Below w.heap.size w w' := by
  obtain ⟨ao, rfl⟩ := hc
  exact implScript_any ao ss.length v2 bv ss ws bs a0 a1 a2 a3 tg pg w hv1 (Nat.le_refl _) hv2 h1 h2 hbv h3 hC hG

set_option maxRecDepth 100000 in
set_option maxHeartbeats 4000000 in
theorem lawScript_any (v1 v2 bv : Value) (ss : List ByteArray) (ws : List Disk.Wr) (bs : List ByteArray) (a0 a1 a2 a3 : Addr) (tg : TypeId) (pg : Value) (w : World) (hv1 : Disk.SR w v1 ss) (hv2 : Disk.WR w v2 ws) (hbv : Disk.SR w bv bs) (h1 : ss.length ≤ 10000000000000) (h2 : ws.length ≤ 10000000000000) (h3 : bs.length ≤ 10000000000000) (hC : Ctx a0 a1 a2 a3 w) (hG : w.cell? ⟨0, 0, none⟩ = some (.iface tg pg)) :
    Calls Tryz.prog 7 #[.agg #[v1, v2], bv] w fun e w' => e = .returned (.bool true) ∧ Below w.heap.size w w' := by
  have S := fun v1 v2 bv w h h' hb => specScript_any v1 v2 bv ss ws bs w h h' h1 h2 hb h3
  have I := fun v1 v2 bv w hc h h' hb hC hG => implScript_v v1 v2 bv ss ws bs a0 a1 a2 a3 tg pg w hc h h' h1 h2 hb h3 hC hG
  have L := scriptR_len ss ws bs
  generalize scriptR ss ws bs = R at S I L
  have hb0 := bel_one w (.cells #[v1, v2] 56)
  have k0 := Disk.B2.new w 56 v1 v2
  go_enter Tryz.func7, Tryz.ntmps7
  go_wp2_with (fail)
  refine (Disk.szDisk_any _ _ ss ws _ _ (hv1.later hb0) (hv2.later hb0) (by omega) (by omega)).mono ?_
  rintro e w1 ⟨⟨y, rfl⟩, hb1⟩
  have hbw1 := bel_after hb0 hb1
  have k1 := k0.later hb1
  clear k0
  by_cases hy : y < 0
  · go_wp2
    go_ret
    exact ⟨rfl, hbw1⟩
  go_wp2_with (fail)
  refine (Disk.szStringS_any _ bs _ _ (hbv.later hbw1) (by omega)).mono ?_
  rintro e w2 ⟨⟨y2, rfl⟩, hb2⟩
  have hbw2 := bel_after hbw1 hb2
  have k2 := k1.later hb2
  obtain ⟨c0, c1⟩ := k2
  clear k1 hb1 hb2 hbw1
  by_cases hy2 : y2 < 0
  · go_wp2
    go_ret
    exact ⟨rfl, hbw2⟩
  go_wp2_with (fail)
  refine (Disk.toDisk_any _ _ ss ws _ (hv1.later hbw2) (hv2.later hbw2) h1 h2).mono ?_
  rintro e w3 ⟨p1, p2, rfl, hP, hb3⟩
  have hbw3 := bel_after hbw2 hb3
  have k3 : Disk.B2 w3 w.heap.size v1 v2 := Disk.B2.later ⟨c0, c1⟩ hb3
  clear c0 c1 hbw2
  go_wp2_with (fail)
  refine (Disk.toStringS_any _ bs _ (hbv.later hbw3) h3).mono ?_
  rintro e w4 ⟨pb, rfl, hPB, hb4⟩
  have hbw4 := bel_after hbw3 hb4
  have hP4 := hP.later hb4
  have k4 := k3.later hb4
  clear hP k3 hbw3 hb3
  go_wp2_with (fail)
  refine (S _ _ _ _ hP4.2.2.1 hP4.2.2.2.1 hPB.2.1).mono ?_
  rintro e w5 ⟨⟨wv, rfl, hW⟩, hb5⟩
  have W5 := Disk.WK.of hW
  have hbw5 := bel_after hbw4 hb5
  have k5 := k4.later hb5
  have z5 : w.heap.size < w5.heap.size := k5.lt
  obtain ⟨c0, c1⟩ := k5
  clear hP4 hPB hW k4 hbw4 hb4 S hb5
  go_wp2_with (fail)
  refine (Disk.toDisk_cap _ _ ss ws _ (hv1.later hbw5) (hv2.later hbw5) h1 h2).mono ?_
  rintro e w6 ⟨q1, q2, rfl, hcq, hQ, hb6⟩
  have Q6 := Disk.DK.of hQ
  have W6 := W5.later hb6
  have k6 : Disk.B2 w6 w.heap.size v1 v2 := Disk.B2.later ⟨c0, c1⟩ hb6
  have z6 := hb6.size
  have hbw6 := bel_after hbw5 hb6
  obtain ⟨qa, qn, qc, rfl⟩ := Q6.s1
  obtain ⟨ra, rn, rc, rfl⟩ := Q6.s2
  clear hQ hb6 c0 c1 W5 hbw5
  have hB7 := bel_one w6 (.cells #[.slice qa qn qc, .slice ra rn rc] 27)
  have Q7 := Q6.later hB7
  have W7 := W6.later hB7
  have k7 := k6.later hB7
  have KX7 := Disk.B2.new w6 27 (.slice qa qn qc) (.slice ra rn rc)
  have hbw7 := bel_after hbw6 hB7
  clear Q6 W6 k6 hbw6
  go_wp2_with (fail)
  refine (Disk.toStringS_any _ bs _ (hbv.later hbw7) h3).mono ?_
  rintro e w8 ⟨xb, rfl, hXB, hb8⟩
  have X8 := Disk.SK.of hXB
  simp only [World.size_alloc] at X8
  have Q8 := Q7.later hb8
  have W8 := W7.later hb8
  have k8 := k7.later hb8
  have KX8 := KX7.later hb8
  have z8 : w6.heap.size + 1 ≤ w8.heap.size := by have := hb8.size; simpa using this
  have hbw8 := bel_after hbw7 hb8
  obtain ⟨x0, x1⟩ := KX8
  clear Q7 W7 k7 KX7 hbw7 hXB hb8 hB7
  go_wp2_with (fail)
  refine (I _ _ _ _ hcq Q8.sr Q8.wr X8.sr (hC.later hbw8) (cell_later hbw8 hG)).mono ?_
  rintro e w9 ⟨⟨gv, rfl, hGv⟩, hb9⟩
  have G9 := Disk.WK.of hGv
  have X9 := X8.later hb9
  have Q9 := Q8.later hb9
  have W9 := W8.later hb9
  have k9 := k8.later hb9
  have KX9 : Disk.B2 w9 w6.heap.size (.slice qa qn qc) (.slice ra rn rc) := Disk.B2.later ⟨x0, x1⟩ hb9
  have z9 := hb9.size
  have hbw9 := bel_after hbw8 hb9
  have HCQ : Hid (∃ ao, Value.slice qa qn qc = .slice ao ss.length ss.length) := hcq
  clear X8 Q8 W8 k8 x0 x1 hbw8 hb9 hGv hcq
  go_wp2_with (fail)
  refine (Disk.eqWriteS_any _ _ R R _ G9.wr W9.wr (by omega) (by omega)).mono ?_
  rintro e w10 ⟨rfl, hb10⟩
  have GA := G9.later hb10
  have XA := X9.later hb10
  have QA := Q9.later hb10
  have WA := W9.later hb10
  have kA := k9.later hb10
  have KXA := KX9.later hb10
  have zA := hb10.size
  have hbwA := bel_after hbw9 hb10
  clear G9 X9 Q9 W9 k9 KX9 hbw9 hb10
  obtain ⟨c0, c1⟩ := kA
  obtain ⟨x0, x1⟩ := KXA
  have a8d : Disk.SR w10.drew v1 ss := hv1.later hbwA.drew
  have b8d : Disk.WR w10.drew v2 ws := hv2.later hbwA.drew
  have Q8d : Disk.DK w5.heap.size w6.heap.size w10.drew (.slice qa qn qc) (.slice ra rn rc) ss ws := QA.dr 1
  go_wp2_with (fail)
  go_region_with (first | (go_at_call 34; refine (Disk.toDisk_any _ _ ss ws _ a8d b8d h1 h2).mono ?_; rintro e w11 ⟨u1, u2, rfl, hU, hb11⟩; have Q8e := Q8d.later hb11; have m2 := cell_later hb11 x0; have m3 := cell_later hb11 x1) | (go_at_call 36; refine (Disk.eqDisk_any _ _ ss ss ws ws _ (Q8e.dr' (by omega) (by omega)) (hU.dr (by omega) (by omega))).mono ?_; rintro e w12 ⟨rfl, hb12⟩))
  all_goals
    have B12 : Below w10.heap.size w10 w12 := Disk.bel_then ((Below.refl w10.heap.size w10).drew.trans hb11) hb11.size hb12
    have GB := GA.later B12
    have XB := XA.later B12
    have QB := QA.later B12
    have WB := WA.later B12
    have kB : Disk.B2 w12 w.heap.size v1 v2 := Disk.B2.later ⟨c0, c1⟩ B12
    have KXB : Disk.B2 w12 w6.heap.size (.slice qa qn qc) (.slice ra rn rc) := Disk.B2.later ⟨x0, x1⟩ B12
    have hbwB := bel_after hbwA B12
    have zB := B12.size
    clear GA XA QA WA hbwA x0 x1 c0 c1 a8d b8d Q8d Q8e m2 m3 hb11 hb12 hU B12
    go_wp2_with (fail)
    refine (Disk.toStringS_any _ bs _ (hbv.later hbwB) h3).mono ?_
    rintro e w13 ⟨tb, rfl, hTB, hb13⟩
    have GC := GB.later hb13
    have XC := XB.later hb13
    have QC := QB.later hb13
    have WC := WB.later hb13
    have kC := kB.later hb13
    have KXC := KXB.later hb13
    have hbwC := bel_after hbwB hb13
    have zC := hb13.size
    clear GB XB QB WB kB KXB hbwB hb13
    go_wp2_with (fail)
    refine (Disk.eqStringS_any _ _ bs bs _ XC.sr hTB.2.1 (by omega) (by omega)).mono ?_
    rintro e w14 ⟨rfl, hb14⟩
    have GD := GC.later hb14
    have XD := XC.later hb14
    have QD := QC.later hb14
    have WD := WC.later hb14
    have kD := kC.later hb14
    have KXD := KXC.later hb14
    have hbwD := bel_after hbwC hb14
    have zD := hb14.size
    clear GC XC QC WC kC KXC hbwC hb14 hTB
    obtain ⟨x0, x1⟩ := KXD
    go_wp2_with (fail)
    refine (Disk.markDisk_any _ _ ss.length ws.length _ _ QD.os1 QD.os2 (by omega) (by omega)).mono ?_
    rintro e w15 ⟨rfl, TE, _, _⟩
    have GE := GD.two TE QD.r1 QD.r2 (.inr (by omega))
    have XE := XD.two TE QD.r1 QD.r2 (.inr (by omega))
    have WE := WD.two TE QD.r1 QD.r2 (.inl (by omega))
    have kE := kD.two TE QD.r1 QD.r2 (.inl (by omega))
    have hbwE := Disk.Two.bel hbwD TE hbwD.size QD.r1 QD.r2 (by omega)
    have zE := TE.size
    clear GD XD QD WD kD hbwD x0 x1 TE
    go_wp2_with (fail)
    refine (Disk.markStringS_any _ bs.length _ _ XE.os (by omega) (by omega)).mono ?_
    rintro e w16 ⟨rfl, gF, _⟩
    have TF := Disk.Two.one gF
    have GF := GE.two TF XE.r Disk.none_in (.inr (by omega))
    have WF := WE.two TF XE.r Disk.none_in (.inl (by omega))
    have kF := kE.two TF XE.r Disk.none_in (.inl (by omega))
    have hbwF := Disk.Two.bel hbwE TF hbwE.size XE.r Disk.none_in (by omega)
    have zF := TF.size
    have tk : decide ((1 : Int) + ↑ss.length + 2 * ↑ws.length + ↑bs.length < 0) = false := by simp; omega
    clear GE XE WE kE hbwE TF gF
    go_wp2_with (fail)
    refine (Disk.eqWriteS_any _ _ R R _ GF.wr WF.wr (by omega) (by omega)).mono ?_
    rintro e w17 ⟨rfl, hb17⟩
    have GH := GF.later hb17
    have WH := WF.later hb17
    have kH := kF.later hb17
    have hbwH := bel_after hbwF hb17
    have zH := hb17.size
    clear GF WF kF hbwF hb17 tk
    go_wp2_with (fail)
    refine (Disk.markWriteS_any _ R.length _ _ GH.os (by omega) (by omega)).mono ?_
    rintro e w18 ⟨rfl, gJ, MJ⟩
    have TJ := Disk.Two.one gJ
    have WJ := WH.two TJ GH.r Disk.none_in (.inl (by omega))
    have kJ := kH.two TJ GH.r Disk.none_in (.inl (by omega))
    have hbwJ := Disk.Two.bel hbwH TJ hbwH.size GH.r Disk.none_in (by omega)
    clear GH WH kH hbwH gJ TJ
    go_wp2_with (fail)
    refine (Disk.heldWriteS_any _ R.length _ _ MJ (by omega) (by omega)).mono ?_
    rintro e w19 ⟨rfl, hb19⟩
    have WL := WJ.later hb19
    have kL := kJ.later hb19
    have ML := MJ.later hb19
    have hbwL := bel_after hbwJ hb19
    have t1 : decide ((1 : Int) + 2 * ↑R.length < 0) = false := by simp; omega
    clear WJ kJ MJ hbwJ hb19
    obtain ⟨c0, c1⟩ := kL
    go_wp2_with (fail)
    refine (Disk.toDisk_cap _ _ ss ws _ (hv1.later hbwL) (hv2.later hbwL) h1 h2).mono ?_
    rintro e w20 ⟨i1, i2, rfl, hci, hI, hb20⟩
    have hbwM := bel_after hbwL hb20
    go_wp2_with (fail)
    refine (Disk.toStringS_any _ bs _ (hbv.later hbwM) h3).mono ?_
    rintro e w21 ⟨ib, rfl, hIB, hb21⟩
    have hI2 := hI.later hb21
    have hbwN := bel_after hbwM hb21
    go_wp2_with (fail)
    refine (I _ _ _ _ hci hI2.2.2.1 hI2.2.2.2.1 hIB.2.1 (hC.later hbwN) (cell_later hbwN hG)).mono ?_
    rintro e w22 ⟨⟨hv, rfl, hH⟩, hb22⟩
    have B22 := bel_after (bel_after hb20 hb21) hb22
    have WP := WL.later B22
    have MP := ML.later B22
    have hbwP := bel_after hbwL B22
    clear WL ML hbwL hbwM hbwN hI hI2 hIB hci c0 c1 hb20 hb21 hb22 B22 I
    go_wp2_with (fail)
    refine (Disk.eqWriteS_any _ _ R R _ hH.2.1 WP.wr (by omega) (by omega)).mono ?_
    rintro e w23 ⟨rfl, hb23⟩
    have MQ := MP.later hb23
    have hbwQ := bel_after hbwP hb23
    clear WP MP hbwP hb23 hH
    go_wp2_with (fail)
    refine (Disk.heldWriteS_any _ R.length _ _ MQ (by omega) (by omega)).mono ?_
    rintro e w24 ⟨rfl, hb24⟩
    have hbwR := bel_after hbwQ hb24
    go_wp2
    go_ret
    exact ⟨rfl, hbwR⟩

end Go.Proofs.YtfcenohgfhefiaaGreatDoor
