/- The law on Cut, walked. -/
import Derived.Test.YtfcenohgfhefiaaGreatDoorZCutI
import Derived.Test.YtfcenohgfhefiaaGreatDoorZSide
import Derived.Test.YtfcenohgfhefiaaGreatDoorZLawCommit
import Derived.Test.YtfcenohgfhefiaaGreatDoorZDLawCrash
namespace Go.Proofs.YtfcenohgfhefiaaGreatDoor
open Go.RowKit

theorem cutS_len (ss : List ByteArray) (ws : List Disk.Wr) (bs : List ByteArray) (dn : Int) (ls : List Bool) (tn : Int) : (cutS ss ws bs dn ls tn).length ≤ 64 := by
  by_cases h : scrOk ss ws bs = true ∧ 0 ≤ dn
  · have h64 := okD_len64 (scrOk_parts h.1).1
    unfold cutS
    rw [if_pos h]
    split
    · exact Nat.le_trans (Disk.crashS_length _ _ _ _) (by omega)
    · exact Nat.le_trans (Disk.crashS_length _ _ _ _) (by rw [doneS_length]; omega)
  · rw [cutS_no h]; exact Nat.zero_le _
theorem implCut_v (v1 v2 bv vl : Value) (ss : List ByteArray) (ws : List Disk.Wr) (bs : List ByteArray) (dn : Int) (ls : List Bool) (tn : Int) (a0 a1 a2 a3 : Addr) (tg : TypeId) (pg : Value) (w : World) (hc : ∃ ao, v1 = .slice ao ss.length ss.length)
    (hv1 : Disk.SR w v1 ss) (hv2 : Disk.WR w v2 ws) (h1 : ss.length ≤ 10000000000000) (h2 : ws.length ≤ 10000000000000) (hbv : Disk.SR w bv bs) (h3 : bs.length ≤ 10000000000000) (hvl : Disk.LR w vl ls) (hC : Ctx a0 a1 a2 a3 w) (hG : w.cell? ⟨0, 0, none⟩ = some (.iface tg pg)) :
    Calls Tryz.prog 21 #[.agg #[v1, v2], bv, .int .i64 dn, vl, .int .i64 tn] w fun e w' => ∃ u1 u2, e = .returned (.agg #[u1, u2]) ∧ Disk.ND w.heap.size w' u1 u2 (cutS ss ws bs dn ls tn) [] ∧ Below w.heap.size w w' := by
  obtain ⟨ao, rfl⟩ := hc
  exact implCut_any ao ss.length v2 bv vl ss ws bs dn ls tn a0 a1 a2 a3 tg pg w hv1 (Nat.le_refl _) hv2 h1 h2 hbv h3 hvl hC hG

set_option maxRecDepth 100000 in
set_option maxHeartbeats 4000000 in
theorem lawCut_any (v1 v2 bv vl : Value) (ss : List ByteArray) (ws : List Disk.Wr) (bs : List ByteArray) (dn : Int) (ls : List Bool) (tn : Int) (a0 a1 a2 a3 : Addr) (tg : TypeId) (pg : Value) (w : World) (hv1 : Disk.SR w v1 ss) (hv2 : Disk.WR w v2 ws) (hbv : Disk.SR w bv bs) (hvl : Disk.LR w vl ls) (h1 : ss.length ≤ 10000000000000) (h2 : ws.length ≤ 10000000000000) (h3 : bs.length ≤ 10000000000000) (hl1 : ls.length ≤ 200000000000000) (hC : Ctx a0 a1 a2 a3 w) (hG : w.cell? ⟨0, 0, none⟩ = some (.iface tg pg)) :
    Calls Tryz.prog 8 #[.agg #[v1, v2], bv, .int .i64 dn, vl, .int .i64 tn] w fun e w' => e = .returned (.bool true) ∧ Below w.heap.size w w' := by
  have S := fun v1 v2 bv vl w h h' hb hl => specCut_any v1 v2 bv vl ss ws bs dn ls tn w h h' h1 h2 hb h3 hl (by omega)
  have I := fun v1 v2 bv vl w hc h h' hb hl hC hG => implCut_v v1 v2 bv vl ss ws bs dn ls tn a0 a1 a2 a3 tg pg w hc h h' h1 h2 hb h3 hl hC hG
  have L := cutS_len ss ws bs dn ls tn
  generalize cutS ss ws bs dn ls tn = R at S I L
  have hvl' := hvl
  obtain ⟨lo, lc, rfl, hll⟩ := hvl
  clear hll
  have HVL : Hid (Disk.LR w (.slice lo ls.length lc) ls) := hvl'
  clear hvl'
  by_cases hlen : (1048576 : Int) < (ls.length : Int)
  · have hb0 := Disk.bel_one w (.cells #[v1, v2] 56)
    go_enter Tryz.func8, Tryz.ntmps8
    go_wp2
    go_ret
    exact ⟨rfl, hb0⟩
-- WALK
  have hb0 := Disk.bel_one w (.cells #[v1, v2] 56)
  have KD0 := Disk.B2.new w 56 v1 v2
  go_enter Tryz.func8, Tryz.ntmps8
  have cKD1 := KD0.1
  have cKD2 := KD0.2
  go_wp2_with (fail)
  refine (Disk.szDisk_any _ _ ss ws _ _ (hv1.later hb0) (hv2.later hb0) (by omega) (by omega)).mono ?_
  rintro e W1 ⟨⟨y, rfl⟩, hb⟩
  clear cKD1 cKD2
  have KD1 := KD0.later hb
  have hbw1 := bel_after hb0 hb
  have z1 := hb.size
  simp only [World.size_alloc] at z1
  clear KD0 hb0
  by_cases hy : y < 0
  · go_wp2
    go_ret
    exact ⟨rfl, hbw1⟩
  clear hb
  go_wp2_with (fail)
  refine (Disk.szStringS_any _ bs _ _ (hbv.later hbw1) (by omega)).mono ?_
  rintro e W2 ⟨⟨y2, rfl⟩, hb⟩
  have KD2 := KD1.later hb
  have hbw2 := bel_after hbw1 hb
  have z2 := hb.size
  clear KD1 hbw1
  by_cases hy2 : y2 < 0
  · go_wp2
    go_ret
    exact ⟨rfl, hbw2⟩
  clear hb
  have cKD1 := KD2.1
  have cKD2 := KD2.2
  go_wp2_with (fail)
  refine (Disk.toDisk_any _ _ ss ws _ (hv1.later hbw2) (hv2.later hbw2) h1 h2).mono ?_
  rintro e W3 ⟨p1, p2, rfl, hP, hb⟩
  clear cKD1 cKD2
  have KD3 := KD2.later hb
  have hbw3 := bel_after hbw2 hb
  have z3 := hb.size
  clear KD2 hbw2
  clear hb
  go_wp2_with (fail)
  refine (Disk.toStringS_any _ bs _ (hbv.later hbw3) h3).mono ?_
  rintro e W4 ⟨pb, rfl, hPB, hb⟩
  have KD4 := KD3.later hb
  have hP4 := hP.later hb
  have hbw4 := bel_after hbw3 hb
  have z4 := hb.size
  clear KD3 hP hbw3
  clear hb
  go_wp2_with (fail)
  refine (Disk.toBoolS_any _ ls _ (HVL.out.later hbw4) hl1).mono ?_
  rintro e W5 ⟨pl, rfl, hPL, hb⟩
  have KD5 := KD4.later hb
  have hP5 := hP4.later hb
  have hPB5 := hPB.later hb
  have hbw5 := bel_after hbw4 hb
  have z5 := hb.size
  clear KD4 hP4 hPB hbw4
  clear hb
  go_wp2_with (fail)
  refine (S _ _ _ _ _ hP5.2.2.1 hP5.2.2.2.1 hPB5.2.1 hPL.2.1).mono ?_
  rintro e W6 ⟨p3, p4, rfl, hA, hb⟩
  have KD6 := KD5.later hb
  have hP6 := hP5.later hb
  have hPB6 := hPB5.later hb
  have hPL6 := hPL.later hb
  have hbw6 := bel_after hbw5 hb
  have z6 := hb.size
  clear KD5 hP5 hPB5 hPL hbw5
  clear hP6
  clear hPB6
  clear hPL6
  have A6 := Disk.DK.of hA
  clear hA hb
  obtain ⟨pa, pn, pc, rfl⟩ := A6.s1
  obtain ⟨ra, rn, rc, rfl⟩ := A6.s2
  have zz0 : w.heap.size < W6.heap.size := KD6.lt
  have hB7 := Disk.bel_one W6 (.cells #[.slice pa pn pc, .slice ra rn rc] 27)
  have KD7 := KD6.later hB7
  have A7 := A6.later hB7
  have hbw7 := bel_after hbw6 hB7
  clear KD6 A6 hbw6
  have KA7 := Disk.B2.new W6 27 (.slice pa pn pc) (.slice ra rn rc)
  have cKD1 := KD7.1
  have cKD2 := KD7.2
  go_wp2_with (fail)
  refine (Disk.toDisk_cap _ _ ss ws _ (hv1.later hbw7) (hv2.later hbw7) h1 h2).mono ?_
  rintro e W8 ⟨q1, q2, rfl, hcq, hQ, hb⟩
  clear cKD1 cKD2
  have KD8 := KD7.later hb
  have A8 := A7.later hb
  have KA8 := KA7.later hb
  have hbw8 := bel_after hbw7 hb
  have z8 := hb.size
  simp only [World.size_alloc] at z8
  clear KD7 A7 KA7 hbw7
  have Q8 := Disk.DK.of hQ
  simp only [World.size_alloc] at Q8
  clear hQ hb
  obtain ⟨qa, qn, qc, rfl⟩ := Q8.s1
  obtain ⟨sa, sn, sc, rfl⟩ := Q8.s2
  have hB9 := Disk.bel_one W8 (.cells #[.slice qa qn qc, .slice sa sn sc] 27)
  have KD9 := KD8.later hB9
  have A9 := A8.later hB9
  have KA9 := KA8.later hB9
  have Q9 := Q8.later hB9
  have hbw9 := bel_after hbw8 hB9
  clear KD8 A8 KA8 Q8 hbw8
  have KX9 := Disk.B2.new W8 27 (.slice qa qn qc) (.slice sa sn sc)
  go_wp2_with (fail)
  refine (Disk.toStringS_any _ bs _ (hbv.later hbw9) h3).mono ?_
  rintro e W10 ⟨xb, rfl, hXB, hb⟩
  have KD10 := KD9.later hb
  have A10 := A9.later hb
  have KA10 := KA9.later hb
  have Q10 := Q9.later hb
  have KX10 := KX9.later hb
  have hbw10 := bel_after hbw9 hb
  have z10 := hb.size
  simp only [World.size_alloc] at z10
  clear KD9 A9 KA9 Q9 KX9 hbw9
  have X10 := Disk.SK.of hXB
  simp only [World.size_alloc] at X10
  clear hXB hb
  go_wp2_with (fail)
  refine (Disk.toBoolS_any _ ls _ (HVL.out.later hbw10) hl1).mono ?_
  rintro e W11 ⟨xl, rfl, hXL, hb⟩
  have KD11 := KD10.later hb
  have A11 := A10.later hb
  have KA11 := KA10.later hb
  have Q11 := Q10.later hb
  have KX11 := KX10.later hb
  have X11 := X10.later hb
  have hbw11 := bel_after hbw10 hb
  have z11 := hb.size
  clear KD10 A10 KA10 Q10 KX10 X10 hbw10
  have Y11 := Disk.BK.of hXL
  clear hXL hb
  have cKX1 := KX11.1
  have cKX2 := KX11.2
  go_wp2_with (fail)
  refine (I _ _ _ _ _ hcq Q11.sr Q11.wr X11.sr Y11.lr (hC.later hbw11) (cell_later hbw11 hG)).mono ?_
  rintro e W12 ⟨g1, g2, rfl, hGv, hb⟩
  clear cKX1 cKX2
  have KD12 := KD11.later hb
  have A12 := A11.later hb
  have KA12 := KA11.later hb
  have Q12 := Q11.later hb
  have KX12 := KX11.later hb
  have X12 := X11.later hb
  have Y12 := Y11.later hb
  have hbw12 := bel_after hbw11 hb
  have z12 := hb.size
  clear KD11 A11 KA11 Q11 KX11 X11 Y11 hbw11
  have G12 := Disk.DK.of hGv
  clear hGv hb
  have HCQ : Hid (∃ ao, Value.slice qa qn qc = .slice ao ss.length ss.length) := hcq
  clear hcq
  obtain ⟨ga, gn, gc, rfl⟩ := G12.s1
  obtain ⟨ha, hn, hc, rfl⟩ := G12.s2
  have hB13 := Disk.bel_one W12 (.cells #[.slice ga gn gc, .slice ha hn hc] 27)
  have KD13 := KD12.later hB13
  have A13 := A12.later hB13
  have KA13 := KA12.later hB13
  have Q13 := Q12.later hB13
  have KX13 := KX12.later hB13
  have X13 := X12.later hB13
  have Y13 := Y12.later hB13
  have G13 := G12.later hB13
  have hbw13 := bel_after hbw12 hB13
  clear KD12 A12 KA12 Q12 KX12 X12 Y12 G12 hbw12
  have KG13 := Disk.B2.new W12 27 (.slice ga gn gc) (.slice ha hn hc)
  have cKA1 := KA13.1
  have cKA2 := KA13.2
  have cKG1 := KG13.1
  have cKG2 := KG13.2
  go_wp2_with (fail)
  refine (Disk.eqDisk_any _ _ R R [] [] _ (G13.dr' (by omega) (by simp)) (A13.dr' (by omega) (by simp))).mono ?_
  rintro e W14 ⟨rfl, hb⟩
  clear cKA1 cKA2 cKG1 cKG2
  have KD14 := KD13.later hb
  have A14 := A13.later hb
  have KA14 := KA13.later hb
  have Q14 := Q13.later hb
  have KX14 := KX13.later hb
  have X14 := X13.later hb
  have Y14 := Y13.later hb
  have G14 := G13.later hb
  have KG14 := KG13.later hb
  have hbw14 := bel_after hbw13 hb
  have z14 := hb.size
  simp only [World.size_alloc] at z14
  clear KD13 A13 KA13 Q13 KX13 X13 Y13 G13 KG13 hbw13
  clear hb
  have cd1 := KD14.1
  have cx1 := KX14.1
  have cd2 := KD14.2
  have cx2 := KX14.2
  have a8d : Disk.SR W14.drew v1 ss := hv1.later hbw14.drew
  have b8d : Disk.WR W14.drew v2 ws := hv2.later hbw14.drew
  have Q8d : Disk.DK (W6.heap.size + 1) W8.heap.size W14.drew (.slice qa qn qc) (.slice sa sn sc) ss ws := Q14.dr 1
  go_wp2_with (fail)
  go_region_with (first | (go_at_call 34; refine (Disk.toDisk_any _ _ ss ws _ a8d b8d h1 h2).mono ?_; rintro e w11 ⟨u1, u2, rfl, hU, hb11⟩; have Q8e := Q8d.later hb11; have m2 := cell_later hb11 cx1; have m3 := cell_later hb11 cx2) | (go_at_call 36; refine (Disk.eqDisk_any _ _ ss ss ws ws _ (Q8e.dr' (by omega) (by omega)) (hU.dr (by omega) (by omega))).mono ?_; rintro e w12 ⟨rfl, hb12⟩))
  all_goals
    have B12 : Below W14.heap.size W14 w12 := Disk.bel_then ((Below.refl W14.heap.size W14).drew.trans hb11) hb11.size hb12
    have KD15 := KD14.later B12
    have A15 := A14.later B12
    have KA15 := KA14.later B12
    have Q15 := Q14.later B12
    have KX15 := KX14.later B12
    have X15 := X14.later B12
    have Y15 := Y14.later B12
    have G15 := G14.later B12
    have KG15 := KG14.later B12
    have hbw15 := bel_after hbw14 B12
    have z15 := B12.size
    clear KD14 A14 KA14 Q14 KX14 X14 Y14 G14 KG14 hbw14 cx1 cx2 cd1 cd2 a8d b8d Q8d Q8e m2 m3 hb11 hb12 hU B12
    go_wp2_with (fail)
    refine (Disk.toStringS_any _ bs _ (hbv.later hbw15) h3).mono ?_
    rintro e W16 ⟨tb, rfl, hTB, hb⟩
    have KD16 := KD15.later hb
    have A16 := A15.later hb
    have KA16 := KA15.later hb
    have Q16 := Q15.later hb
    have KX16 := KX15.later hb
    have X16 := X15.later hb
    have Y16 := Y15.later hb
    have G16 := G15.later hb
    have KG16 := KG15.later hb
    have hbw16 := bel_after hbw15 hb
    have z16 := hb.size
    clear KD15 A15 KA15 Q15 KX15 X15 Y15 G15 KG15 hbw15
    clear hb
    go_wp2_with (fail)
    refine (Disk.eqStringS_any _ _ bs bs _ X16.sr hTB.2.1 (by omega) (by omega)).mono ?_
    rintro e W17 ⟨rfl, hb⟩
    have KD17 := KD16.later hb
    have A17 := A16.later hb
    have KA17 := KA16.later hb
    have Q17 := Q16.later hb
    have KX17 := KX16.later hb
    have X17 := X16.later hb
    have Y17 := Y16.later hb
    have G17 := G16.later hb
    have KG17 := KG16.later hb
    have hTB17 := hTB.later hb
    have hbw17 := bel_after hbw16 hb
    have z17 := hb.size
    clear KD16 A16 KA16 Q16 KX16 X16 Y16 G16 KG16 hTB hbw16
    clear hTB17 hb
    go_wp2_with (fail)
    refine (Disk.toBoolS_any _ ls _ (HVL.out.later hbw17) hl1).mono ?_
    rintro e W18 ⟨tl, rfl, hTL, hb⟩
    have KD18 := KD17.later hb
    have A18 := A17.later hb
    have KA18 := KA17.later hb
    have Q18 := Q17.later hb
    have KX18 := KX17.later hb
    have X18 := X17.later hb
    have Y18 := Y17.later hb
    have G18 := G17.later hb
    have KG18 := KG17.later hb
    have hbw18 := bel_after hbw17 hb
    have z18 := hb.size
    clear KD17 A17 KA17 Q17 KX17 X17 Y17 G17 KG17 hbw17
    clear hb
    go_wp2_with (fail)
    refine (Disk.eqBoolS_any _ _ ls ls _ Y18.lr hTL.2.1 (by omega) (by omega)).mono ?_
    rintro e W19 ⟨rfl, hb⟩
    have KD19 := KD18.later hb
    have A19 := A18.later hb
    have KA19 := KA18.later hb
    have Q19 := Q18.later hb
    have KX19 := KX18.later hb
    have X19 := X18.later hb
    have Y19 := Y18.later hb
    have G19 := G18.later hb
    have KG19 := KG18.later hb
    have hTL19 := hTL.later hb
    have hbw19 := bel_after hbw18 hb
    have z19 := hb.size
    clear KD18 A18 KA18 Q18 KX18 X18 Y18 G18 KG18 hTL hbw18
    clear hTL19 hb
    have cKX1 := KX19.1
    have cKX2 := KX19.2
    go_wp2_with (fail)
    refine (Disk.markDisk_any _ _ ss.length ws.length _ _ Q19.os1 Q19.os2 (by omega) (by omega)).mono ?_
    rintro e wm1 ⟨rfl, TE, _, _⟩
    clear cKX1 cKX2
    have qr1 := Q19.r1
    have qr2 := Q19.r2
    have KD20 := KD19.two TE qr1 qr2 (.inl (by omega))
    have A20 := A19.two TE qr1 qr2 (.inl (by omega))
    have KA20 := KA19.two TE qr1 qr2 (.inl (by omega))
    have X20 := X19.two TE qr1 qr2 (.inr (by omega))
    have Y20 := Y19.two TE qr1 qr2 (.inr (by omega))
    have G20 := G19.two TE qr1 qr2 (.inr (by omega))
    have KG20 := KG19.two TE qr1 qr2 (.inr (by omega))
    have hbw20 := Disk.Two.bel hbw19 TE hbw19.size qr1 qr2 (by omega)
    have z20 := TE.size
    clear Q19 KX19 KD19 A19 KA19 X19 Y19 G19 KG19 hbw19 TE qr1 qr2
    go_wp2_with (fail)
    refine (Disk.markStringS_any _ bs.length _ _ X20.os (by omega) (by omega)).mono ?_
    rintro e wm2 ⟨rfl, gF, _⟩
    have TF := Disk.Two.one gF
    have xr := X20.r
    have KD21 := KD20.two TF xr Disk.none_in (.inl (by omega))
    have A21 := A20.two TF xr Disk.none_in (.inl (by omega))
    have KA21 := KA20.two TF xr Disk.none_in (.inl (by omega))
    have Y21 := Y20.two TF xr Disk.none_in (.inr (by omega))
    have G21 := G20.two TF xr Disk.none_in (.inr (by omega))
    have KG21 := KG20.two TF xr Disk.none_in (.inr (by omega))
    have hbw21 := Disk.Two.bel hbw20 TF hbw20.size xr Disk.none_in (by omega)
    have z21 := TF.size
    clear X20 KD20 A20 KA20 Y20 G20 KG20 hbw20 TF gF xr
    go_wp2_with (fail)
    refine (Disk.markBoolS_any _ ls.length _ _ Y21.os (by omega) (by omega)).mono ?_
    rintro e wm4 ⟨rfl, gY⟩
    have TY := Disk.Two.one gY
    have yr := Y21.r
    have KD22 := KD21.two TY yr Disk.none_in (.inl (by omega))
    have A22 := A21.two TY yr Disk.none_in (.inl (by omega))
    have KA22 := KA21.two TY yr Disk.none_in (.inl (by omega))
    have G22 := G21.two TY yr Disk.none_in (.inr (by omega))
    have KG22 := KG21.two TY yr Disk.none_in (.inr (by omega))
    have hbw22 := Disk.Two.bel hbw21 TY hbw21.size yr Disk.none_in (by omega)
    have z22 := TY.size
    clear Y21 KD21 A21 KA21 G21 KG21 hbw21 TY gY yr
    have tk : decide ((1 : Int) + ↑ss.length + 2 * ↑ws.length + ↑bs.length + ↑ls.length < 0) = false := by simp; omega
    have cKA1 := KA22.1
    have cKA2 := KA22.2
    have cKG1 := KG22.1
    have cKG2 := KG22.2
    go_wp2_with (fail)
    refine (Disk.eqDisk_any _ _ R R [] [] _ (G22.dr' (by omega) (by simp)) (A22.dr' (by omega) (by simp))).mono ?_
    rintro e W23 ⟨rfl, hb⟩
    clear cKA1 cKA2 cKG1 cKG2
    have KD23 := KD22.later hb
    have A23 := A22.later hb
    have KA23 := KA22.later hb
    have G23 := G22.later hb
    have KG23 := KG22.later hb
    have hbw23 := bel_after hbw22 hb
    have z23 := hb.size
    clear KD22 A22 KA22 G22 KG22 hbw22
    clear hb tk
    have cKG1 := KG23.1
    have cKG2 := KG23.2
    go_wp2_with (fail)
    refine (Disk.markDisk_any _ _ R.length 0 _ _ G23.os1 G23.os2 (by omega) (by simp; omega)).mono ?_
    rintro e wm3 ⟨rfl, TG, MS, MW⟩
    clear cKG1 cKG2
    have gr1 := G23.r1
    have gr2 := G23.r2
    have KD24 := KD23.two TG gr1 gr2 (.inl (by omega))
    have A24 := A23.two TG gr1 gr2 (.inl (by omega))
    have KA24 := KA23.two TG gr1 gr2 (.inl (by omega))
    have KG24 := KG23.two TG gr1 gr2 (.inr (by omega))
    have hbw24 := Disk.Two.bel hbw23 TG hbw23.size gr1 gr2 (by omega)
    have z24 := TG.size
    clear G23 KD23 A23 KA23 KG23 hbw23 TG gr1 gr2
    have cKG1 := KG24.1
    have cKG2 := KG24.2
    go_wp2_with (fail)
    refine (Disk.heldDisk_any _ _ R.length 0 _ _ MS MW (by omega) (by simp; omega)).mono ?_
    rintro e W25 ⟨rfl, hb⟩
    clear cKG1 cKG2
    have KD25 := KD24.later hb
    have A25 := A24.later hb
    have KA25 := KA24.later hb
    have KG25 := KG24.later hb
    have MS25 := MS.later hb
    have MW25 := MW.later hb
    have hbw25 := bel_after hbw24 hb
    have z25 := hb.size
    clear KD24 A24 KA24 KG24 MS MW hbw24
    clear hb
    have t1 : decide ((1 : Int) + ↑R.length < 0) = false := by simp; omega
    have cKD1 := KD25.1
    have cKD2 := KD25.2
    go_wp2_with (fail)
    refine (Disk.toDisk_cap _ _ ss ws _ (hv1.later hbw25) (hv2.later hbw25) h1 h2).mono ?_
    rintro e W26 ⟨i1, i2, rfl, hci, hI, hb⟩
    clear cKD1 cKD2
    have KD26 := KD25.later hb
    have A26 := A25.later hb
    have KA26 := KA25.later hb
    have KG26 := KG25.later hb
    have MS26 := MS25.later hb
    have MW26 := MW25.later hb
    have hbw26 := bel_after hbw25 hb
    have z26 := hb.size
    clear KD25 A25 KA25 KG25 MS25 MW25 hbw25
    clear hb
    go_wp2_with (fail)
    refine (Disk.toStringS_any _ bs _ (hbv.later hbw26) h3).mono ?_
    rintro e W27 ⟨ib, rfl, hIB, hb⟩
    have KD27 := KD26.later hb
    have A27 := A26.later hb
    have KA27 := KA26.later hb
    have KG27 := KG26.later hb
    have MS27 := MS26.later hb
    have MW27 := MW26.later hb
    have hI27 := hI.later hb
    have hbw27 := bel_after hbw26 hb
    have z27 := hb.size
    clear KD26 A26 KA26 KG26 MS26 MW26 hI hbw26
    clear hb
    go_wp2_with (fail)
    refine (Disk.toBoolS_any _ ls _ (HVL.out.later hbw27) hl1).mono ?_
    rintro e W28 ⟨il, rfl, hIL, hb⟩
    have KD28 := KD27.later hb
    have A28 := A27.later hb
    have KA28 := KA27.later hb
    have KG28 := KG27.later hb
    have MS28 := MS27.later hb
    have MW28 := MW27.later hb
    have hI28 := hI27.later hb
    have hIB28 := hIB.later hb
    have hbw28 := bel_after hbw27 hb
    have z28 := hb.size
    clear KD27 A27 KA27 KG27 MS27 MW27 hI27 hIB hbw27
    clear hb
    go_wp2_with (fail)
    refine (I _ _ _ _ _ hci hI28.2.2.1 hI28.2.2.2.1 hIB28.2.1 hIL.2.1 (hC.later hbw28) (cell_later hbw28 hG)).mono ?_
    rintro e W29 ⟨j1, j2, rfl, hJ, hb⟩
    have KD29 := KD28.later hb
    have A29 := A28.later hb
    have KA29 := KA28.later hb
    have KG29 := KG28.later hb
    have MS29 := MS28.later hb
    have MW29 := MW28.later hb
    have hI29 := hI28.later hb
    have hIB29 := hIB28.later hb
    have hIL29 := hIL.later hb
    have hbw29 := bel_after hbw28 hb
    have z29 := hb.size
    clear KD28 A28 KA28 KG28 MS28 MW28 hI28 hIB28 hIL hbw28
    clear hI29
    clear hIB29
    clear hIL29
    have J29 := Disk.DK.of hJ
    clear hJ hb hci
    obtain ⟨ja, jn, jc, rfl⟩ := J29.s1
    obtain ⟨ka, kn, kc, rfl⟩ := J29.s2
    have hB30 := Disk.bel_one W29 (.cells #[.slice ja jn jc, .slice ka kn kc] 27)
    have KD30 := KD29.later hB30
    have A30 := A29.later hB30
    have KA30 := KA29.later hB30
    have KG30 := KG29.later hB30
    have MS30 := MS29.later hB30
    have MW30 := MW29.later hB30
    have J30 := J29.later hB30
    have hbw30 := bel_after hbw29 hB30
    clear KD29 A29 KA29 KG29 MS29 MW29 J29 hbw29
    have KJ30 := Disk.B2.new W29 27 (.slice ja jn jc) (.slice ka kn kc)
    have cKA1 := KA30.1
    have cKA2 := KA30.2
    have cKJ1 := KJ30.1
    have cKJ2 := KJ30.2
    go_wp2_with (fail)
    refine (Disk.eqDisk_any _ _ R R [] [] _ (J30.dr' (by omega) (by simp)) (A30.dr' (by omega) (by simp))).mono ?_
    rintro e W31 ⟨rfl, hb⟩
    clear cKA1 cKA2 cKJ1 cKJ2
    have KD31 := KD30.later hb
    have A31 := A30.later hb
    have KA31 := KA30.later hb
    have KG31 := KG30.later hb
    have MS31 := MS30.later hb
    have MW31 := MW30.later hb
    have J31 := J30.later hb
    have KJ31 := KJ30.later hb
    have hbw31 := bel_after hbw30 hb
    have z31 := hb.size
    simp only [World.size_alloc] at z31
    clear KD30 A30 KA30 KG30 MS30 MW30 J30 KJ30 hbw30
    clear hb
    have cKG1 := KG31.1
    have cKG2 := KG31.2
    go_wp2_with (fail)
    refine (Disk.heldDisk_any _ _ R.length 0 _ _ MS31 MW31 (by omega) (by simp; omega)).mono ?_
    rintro e W32 ⟨rfl, hb⟩
    clear cKG1 cKG2
    have KD32 := KD31.later hb
    have A32 := A31.later hb
    have KA32 := KA31.later hb
    have KG32 := KG31.later hb
    have MS32 := MS31.later hb
    have MW32 := MW31.later hb
    have J32 := J31.later hb
    have KJ32 := KJ31.later hb
    have hbw32 := bel_after hbw31 hb
    have z32 := hb.size
    clear KD31 A31 KA31 KG31 MS31 MW31 J31 KJ31 hbw31
    clear hb
    go_wp2
    go_ret
    exact ⟨rfl, hbw32⟩
-- END

end Go.Proofs.YtfcenohgfhefiaaGreatDoor
