/- The law on Commit, walked. -/
import Derived.Test.YtfcenohgfhefiaaGreatDoorZCommitI
import Derived.Test.YtfcenohgfhefiaaGreatDoorZSide
namespace Go.Proofs.YtfcenohgfhefiaaGreatDoor
open Go.RowKit

theorem commitS_len (ss : List ByteArray) (ws : List Disk.Wr) (bs : List ByteArray) : (commitS ss ws bs).length ≤ 64 := by
  cases h : scrOk ss ws bs
  · rw [commitS_no h]; exact Nat.zero_le _
  · rw [commitS_yes h, doneS_length, okD_len64 (scrOk_parts h).1]; exact Nat.le_refl _
theorem implCommit_v (v1 v2 bv : Value) (ss : List ByteArray) (ws : List Disk.Wr) (bs : List ByteArray) (a0 a1 a2 a3 : Addr) (tg : TypeId) (pg : Value) (w : World) (hc : ∃ ao, v1 = .slice ao ss.length ss.length)
    (hv1 : Disk.SR w v1 ss) (hv2 : Disk.WR w v2 ws) (h1 : ss.length ≤ 10000000000000) (h2 : ws.length ≤ 10000000000000) (hbv : Disk.SR w bv bs) (h3 : bs.length ≤ 10000000000000) (hC : Ctx a0 a1 a2 a3 w) (hG : w.cell? ⟨0, 0, none⟩ = some (.iface tg pg)) :
    Calls Tryz.prog 11 #[.agg #[v1, v2], bv] w fun e w' => ∃ u1 u2, e = .returned (.tuple #[.agg #[u1, u2], .bool (scrOk ss ws bs)]) ∧ Disk.ND w.heap.size w' u1 u2 (commitS ss ws bs) [] ∧ Below w.heap.size w w' := by
  obtain ⟨ao, rfl⟩ := hc
  exact implCommit_any ao ss.length v2 bv ss ws bs a0 a1 a2 a3 tg pg w hv1 (Nat.le_refl _) hv2 h1 h2 hbv h3 hC hG

set_option maxRecDepth 100000 in
set_option maxHeartbeats 4000000 in
theorem lawCommit_any (v1 v2 bv : Value) (ss : List ByteArray) (ws : List Disk.Wr) (bs : List ByteArray) (a0 a1 a2 a3 : Addr) (tg : TypeId) (pg : Value) (w : World) (hv1 : Disk.SR w v1 ss) (hv2 : Disk.WR w v2 ws) (hbv : Disk.SR w bv bs) (h1 : ss.length ≤ 10000000000000) (h2 : ws.length ≤ 10000000000000) (h3 : bs.length ≤ 10000000000000) (hC : Ctx a0 a1 a2 a3 w) (hG : w.cell? ⟨0, 0, none⟩ = some (.iface tg pg)) :
    Calls Tryz.prog 6 #[.agg #[v1, v2], bv] w fun e w' => e = .returned (.bool true) ∧ Below w.heap.size w w' := by
  have S := fun v1 v2 bv w h h' hb => specCommit_any v1 v2 bv ss ws bs w h h' h1 h2 hb h3
  have I := fun v1 v2 bv w hc h h' hb hC hG => implCommit_v v1 v2 bv ss ws bs a0 a1 a2 a3 tg pg w hc h h' h1 h2 hb h3 hC hG
  have L := commitS_len ss ws bs
  generalize commitS ss ws bs = R at S I L
  generalize scrOk ss ws bs = ok at S I
-- WALK
  have hb0 := Disk.bel_one w (.cells #[v1, v2] 56)
  have KD0 := Disk.B2.new w 56 v1 v2
  go_enter Tryz.func6, Tryz.ntmps6
  have cKD1 := KD0.1
  have cKD2 := KD0.2
  go_wp2_with (fail)
  refine (Disk.szDisk_any _ _ ss ws _ _ (hv1.later hb0) (hv2.later hb0) (by omega) (by omega)).mono ?_
  rintro e W1 ⟨⟨y, rfl⟩, hb⟩
  clear cKD1 cKD2
  have KD1 := KD0.later hb
  have hbw1 := bel_after hb0 hb
  have z1 := hb.size
  simp only [World.size_alloc] at z1
  clear KD0 hb0
  by_cases hy : y < 0
  · go_wp2
    go_ret
    exact ⟨rfl, hbw1⟩
  clear hb
  go_wp2_with (fail)
  refine (Disk.szStringS_any _ bs _ _ (hbv.later hbw1) (by omega)).mono ?_
  rintro e W2 ⟨⟨y2, rfl⟩, hb⟩
  have KD2 := KD1.later hb
  have hbw2 := bel_after hbw1 hb
  have z2 := hb.size
  clear KD1 hbw1
  by_cases hy2 : y2 < 0
  · go_wp2
    go_ret
    exact ⟨rfl, hbw2⟩
  clear hb
  have cKD1 := KD2.1
  have cKD2 := KD2.2
  go_wp2_with (fail)
  refine (Disk.toDisk_any _ _ ss ws _ (hv1.later hbw2) (hv2.later hbw2) h1 h2).mono ?_
  rintro e W3 ⟨p1, p2, rfl, hP, hb⟩
  clear cKD1 cKD2
  have KD3 := KD2.later hb
  have hbw3 := bel_after hbw2 hb
  have z3 := hb.size
  clear KD2 hbw2
  clear hb
  go_wp2_with (fail)
  refine (Disk.toStringS_any _ bs _ (hbv.later hbw3) h3).mono ?_
  rintro e W4 ⟨pb, rfl, hPB, hb⟩
  have KD4 := KD3.later hb
  have hP4 := hP.later hb
  have hbw4 := bel_after hbw3 hb
  have z4 := hb.size
  clear KD3 hP hbw3
  clear hb
  go_wp2_with (fail)
  refine (S _ _ _ _ hP4.2.2.1 hP4.2.2.2.1 hPB.2.1).mono ?_
  rintro e W5 ⟨p3, p4, rfl, hA, hb⟩
  have KD5 := KD4.later hb
  have hP5 := hP4.later hb
  have hPB5 := hPB.later hb
  have hbw5 := bel_after hbw4 hb
  have z5 := hb.size
  clear KD4 hP4 hPB hbw4
  clear hP5
  clear hPB5
  have A5 := Disk.DK.of hA
  clear hA hb
  obtain ⟨pa, pn, pc, rfl⟩ := A5.s1
  obtain ⟨ra, rn, rc, rfl⟩ := A5.s2
  have zz0 : w.heap.size < W5.heap.size := KD5.lt
  have hB6 := Disk.bel_one W5 (.cells #[.slice pa pn pc, .slice ra rn rc] 27)
  have KD6 := KD5.later hB6
  have A6 := A5.later hB6
  have hbw6 := bel_after hbw5 hB6
  clear KD5 A5 hbw5
  have KA6 := Disk.B2.new W5 27 (.slice pa pn pc) (.slice ra rn rc)
  have cKD1 := KD6.1
  have cKD2 := KD6.2
  go_wp2_with (fail)
  refine (Disk.toDisk_cap _ _ ss ws _ (hv1.later hbw6) (hv2.later hbw6) h1 h2).mono ?_
  rintro e W7 ⟨q1, q2, rfl, hcq, hQ, hb⟩
  clear cKD1 cKD2
  have KD7 := KD6.later hb
  have A7 := A6.later hb
  have KA7 := KA6.later hb
  have hbw7 := bel_after hbw6 hb
  have z7 := hb.size
  simp only [World.size_alloc] at z7
  clear KD6 A6 KA6 hbw6
  have Q7 := Disk.DK.of hQ
  simp only [World.size_alloc] at Q7
  clear hQ hb
  obtain ⟨qa, qn, qc, rfl⟩ := Q7.s1
  obtain ⟨sa, sn, sc, rfl⟩ := Q7.s2
  have hB8 := Disk.bel_one W7 (.cells #[.slice qa qn qc, .slice sa sn sc] 27)
  have KD8 := KD7.later hB8
  have A8 := A7.later hB8
  have KA8 := KA7.later hB8
  have Q8 := Q7.later hB8
  have hbw8 := bel_after hbw7 hB8
  clear KD7 A7 KA7 Q7 hbw7
  have KX8 := Disk.B2.new W7 27 (.slice qa qn qc) (.slice sa sn sc)
  go_wp2_with (fail)
  refine (Disk.toStringS_any _ bs _ (hbv.later hbw8) h3).mono ?_
  rintro e W9 ⟨xb, rfl, hXB, hb⟩
  have KD9 := KD8.later hb
  have A9 := A8.later hb
  have KA9 := KA8.later hb
  have Q9 := Q8.later hb
  have KX9 := KX8.later hb
  have hbw9 := bel_after hbw8 hb
  have z9 := hb.size
  simp only [World.size_alloc] at z9
  clear KD8 A8 KA8 Q8 KX8 hbw8
  have X9 := Disk.SK.of hXB
  simp only [World.size_alloc] at X9
  clear hXB hb
  have cKX1 := KX9.1
  have cKX2 := KX9.2
  go_wp2_with (fail)
  refine (I _ _ _ _ hcq Q9.sr Q9.wr X9.sr (hC.later hbw9) (cell_later hbw9 hG)).mono ?_
  rintro e W10 ⟨g1, g2, rfl, hGv, hb⟩
  clear cKX1 cKX2
  have KD10 := KD9.later hb
  have A10 := A9.later hb
  have KA10 := KA9.later hb
  have Q10 := Q9.later hb
  have KX10 := KX9.later hb
  have X10 := X9.later hb
  have hbw10 := bel_after hbw9 hb
  have z10 := hb.size
  clear KD9 A9 KA9 Q9 KX9 X9 hbw9
  have G10 := Disk.DK.of hGv
  clear hGv hb
  have HCQ : Hid (∃ ao, Value.slice qa qn qc = .slice ao ss.length ss.length) := hcq
  clear hcq
  obtain ⟨ga, gn, gc, rfl⟩ := G10.s1
  obtain ⟨ha, hn, hc, rfl⟩ := G10.s2
  have hB11 := Disk.bel_one W10 (.cells #[.slice ga gn gc, .slice ha hn hc] 27)
  have KD11 := KD10.later hB11
  have A11 := A10.later hB11
  have KA11 := KA10.later hB11
  have Q11 := Q10.later hB11
  have KX11 := KX10.later hB11
  have X11 := X10.later hB11
  have G11 := G10.later hB11
  have hbw11 := bel_after hbw10 hB11
  clear KD10 A10 KA10 Q10 KX10 X10 G10 hbw10
  have KG11 := Disk.B2.new W10 27 (.slice ga gn gc) (.slice ha hn hc)
  have cKA1 := KA11.1
  have cKA2 := KA11.2
  have cKG1 := KG11.1
  have cKG2 := KG11.2
  go_wp2_with (fail)
  refine (Disk.eqDisk_any _ _ R R [] [] _ (G11.dr' (by omega) (by simp)) (A11.dr' (by omega) (by simp))).mono ?_
  rintro e W12 ⟨rfl, hb⟩
  clear cKA1 cKA2 cKG1 cKG2
  have KD12 := KD11.later hb
  have A12 := A11.later hb
  have KA12 := KA11.later hb
  have Q12 := Q11.later hb
  have KX12 := KX11.later hb
  have X12 := X11.later hb
  have G12 := G11.later hb
  have KG12 := KG11.later hb
  have hbw12 := bel_after hbw11 hb
  have z12 := hb.size
  simp only [World.size_alloc] at z12
  clear KD11 A11 KA11 Q11 KX11 X11 G11 KG11 hbw11
  clear hb
  have cd1 := KD12.1
  have cx1 := KX12.1
  have cd2 := KD12.2
  have cx2 := KX12.2
  have a8d : Disk.SR W12.drew v1 ss := hv1.later hbw12.drew
  have b8d : Disk.WR W12.drew v2 ws := hv2.later hbw12.drew
  have Q8d : Disk.DK (W5.heap.size + 1) W7.heap.size W12.drew (.slice qa qn qc) (.slice sa sn sc) ss ws := Q12.dr 1
  go_wp2_with (fail)
  go_region_with (first | (go_at_call 34; refine (Disk.toDisk_any _ _ ss ws _ a8d b8d h1 h2).mono ?_; rintro e w11 ⟨u1, u2, rfl, hU, hb11⟩; have Q8e := Q8d.later hb11; have m2 := cell_later hb11 cx1; have m3 := cell_later hb11 cx2) | (go_at_call 36; refine (Disk.eqDisk_any _ _ ss ss ws ws _ (Q8e.dr' (by omega) (by omega)) (hU.dr (by omega) (by omega))).mono ?_; rintro e w12 ⟨rfl, hb12⟩))
  all_goals
    have B12 : Below W12.heap.size W12 w12 := Disk.bel_then ((Below.refl W12.heap.size W12).drew.trans hb11) hb11.size hb12
    have KD13 := KD12.later B12
    have A13 := A12.later B12
    have KA13 := KA12.later B12
    have Q13 := Q12.later B12
    have KX13 := KX12.later B12
    have X13 := X12.later B12
    have G13 := G12.later B12
    have KG13 := KG12.later B12
    have hbw13 := bel_after hbw12 B12
    have z13 := B12.size
    clear KD12 A12 KA12 Q12 KX12 X12 G12 KG12 hbw12 cx1 cx2 cd1 cd2 a8d b8d Q8d Q8e m2 m3 hb11 hb12 hU B12
    go_wp2_with (fail)
    refine (Disk.toStringS_any _ bs _ (hbv.later hbw13) h3).mono ?_
    rintro e W14 ⟨tb, rfl, hTB, hb⟩
    have KD14 := KD13.later hb
    have A14 := A13.later hb
    have KA14 := KA13.later hb
    have Q14 := Q13.later hb
    have KX14 := KX13.later hb
    have X14 := X13.later hb
    have G14 := G13.later hb
    have KG14 := KG13.later hb
    have hbw14 := bel_after hbw13 hb
    have z14 := hb.size
    clear KD13 A13 KA13 Q13 KX13 X13 G13 KG13 hbw13
    clear hb
    go_wp2_with (fail)
    refine (Disk.eqStringS_any _ _ bs bs _ X14.sr hTB.2.1 (by omega) (by omega)).mono ?_
    rintro e W15 ⟨rfl, hb⟩
    have KD15 := KD14.later hb
    have A15 := A14.later hb
    have KA15 := KA14.later hb
    have Q15 := Q14.later hb
    have KX15 := KX14.later hb
    have X15 := X14.later hb
    have G15 := G14.later hb
    have KG15 := KG14.later hb
    have hTB15 := hTB.later hb
    have hbw15 := bel_after hbw14 hb
    have z15 := hb.size
    clear KD14 A14 KA14 Q14 KX14 X14 G14 KG14 hTB hbw14
    clear hTB15 hb
    have cKX1 := KX15.1
    have cKX2 := KX15.2
    go_wp2_with (fail)
    refine (Disk.markDisk_any _ _ ss.length ws.length _ _ Q15.os1 Q15.os2 (by omega) (by omega)).mono ?_
    rintro e wm1 ⟨rfl, TE, _, _⟩
    clear cKX1 cKX2
    have qr1 := Q15.r1
    have qr2 := Q15.r2
    have KD16 := KD15.two TE qr1 qr2 (.inl (by omega))
    have A16 := A15.two TE qr1 qr2 (.inl (by omega))
    have KA16 := KA15.two TE qr1 qr2 (.inl (by omega))
    have X16 := X15.two TE qr1 qr2 (.inr (by omega))
    have G16 := G15.two TE qr1 qr2 (.inr (by omega))
    have KG16 := KG15.two TE qr1 qr2 (.inr (by omega))
    have hbw16 := Disk.Two.bel hbw15 TE hbw15.size qr1 qr2 (by omega)
    have z16 := TE.size
    clear Q15 KX15 KD15 A15 KA15 X15 G15 KG15 hbw15 TE qr1 qr2
    go_wp2_with (fail)
    refine (Disk.markStringS_any _ bs.length _ _ X16.os (by omega) (by omega)).mono ?_
    rintro e wm2 ⟨rfl, gF, _⟩
    have TF := Disk.Two.one gF
    have xr := X16.r
    have KD17 := KD16.two TF xr Disk.none_in (.inl (by omega))
    have A17 := A16.two TF xr Disk.none_in (.inl (by omega))
    have KA17 := KA16.two TF xr Disk.none_in (.inl (by omega))
    have G17 := G16.two TF xr Disk.none_in (.inr (by omega))
    have KG17 := KG16.two TF xr Disk.none_in (.inr (by omega))
    have hbw17 := Disk.Two.bel hbw16 TF hbw16.size xr Disk.none_in (by omega)
    have z17 := TF.size
    clear X16 KD16 A16 KA16 G16 KG16 hbw16 TF gF xr
    have tk : decide ((1 : Int) + ↑ss.length + 2 * ↑ws.length + ↑bs.length < 0) = false := by simp; omega
    have cKA1 := KA17.1
    have cKA2 := KA17.2
    have cKG1 := KG17.1
    have cKG2 := KG17.2
    go_wp2_with (fail)
    refine (Disk.eqDisk_any _ _ R R [] [] _ (G17.dr' (by omega) (by simp)) (A17.dr' (by omega) (by simp))).mono ?_
    rintro e W18 ⟨rfl, hb⟩
    clear cKA1 cKA2 cKG1 cKG2
    have KD18 := KD17.later hb
    have A18 := A17.later hb
    have KA18 := KA17.later hb
    have G18 := G17.later hb
    have KG18 := KG17.later hb
    have hbw18 := bel_after hbw17 hb
    have z18 := hb.size
    clear KD17 A17 KA17 G17 KG17 hbw17
    clear hb tk
    have cKG1 := KG18.1
    have cKG2 := KG18.2
    go_wp2_with (fail)
    refine (Disk.markDisk_any _ _ R.length 0 _ _ G18.os1 G18.os2 (by omega) (by simp; omega)).mono ?_
    rintro e wm3 ⟨rfl, TG, MS, MW⟩
    clear cKG1 cKG2
    have gr1 := G18.r1
    have gr2 := G18.r2
    have KD19 := KD18.two TG gr1 gr2 (.inl (by omega))
    have A19 := A18.two TG gr1 gr2 (.inl (by omega))
    have KA19 := KA18.two TG gr1 gr2 (.inl (by omega))
    have KG19 := KG18.two TG gr1 gr2 (.inr (by omega))
    have hbw19 := Disk.Two.bel hbw18 TG hbw18.size gr1 gr2 (by omega)
    have z19 := TG.size
    clear G18 KD18 A18 KA18 KG18 hbw18 TG gr1 gr2
    have cKG1 := KG19.1
    have cKG2 := KG19.2
    go_wp2_with (fail)
    refine (Disk.heldDisk_any _ _ R.length 0 _ _ MS MW (by omega) (by simp; omega)).mono ?_
    rintro e W20 ⟨rfl, hb⟩
    clear cKG1 cKG2
    have KD20 := KD19.later hb
    have A20 := A19.later hb
    have KA20 := KA19.later hb
    have KG20 := KG19.later hb
    have MS20 := MS.later hb
    have MW20 := MW.later hb
    have hbw20 := bel_after hbw19 hb
    have z20 := hb.size
    clear KD19 A19 KA19 KG19 MS MW hbw19
    clear hb
    have t1 : decide ((1 : Int) + ↑R.length < 0) = false := by simp; omega
    have cKD1 := KD20.1
    have cKD2 := KD20.2
    go_wp2_with (fail)
    refine (Disk.toDisk_cap _ _ ss ws _ (hv1.later hbw20) (hv2.later hbw20) h1 h2).mono ?_
    rintro e W21 ⟨i1, i2, rfl, hci, hI, hb⟩
    clear cKD1 cKD2
    have KD21 := KD20.later hb
    have A21 := A20.later hb
    have KA21 := KA20.later hb
    have KG21 := KG20.later hb
    have MS21 := MS20.later hb
    have MW21 := MW20.later hb
    have hbw21 := bel_after hbw20 hb
    have z21 := hb.size
    clear KD20 A20 KA20 KG20 MS20 MW20 hbw20
    clear hb
    go_wp2_with (fail)
    refine (Disk.toStringS_any _ bs _ (hbv.later hbw21) h3).mono ?_
    rintro e W22 ⟨ib, rfl, hIB, hb⟩
    have KD22 := KD21.later hb
    have A22 := A21.later hb
    have KA22 := KA21.later hb
    have KG22 := KG21.later hb
    have MS22 := MS21.later hb
    have MW22 := MW21.later hb
    have hI22 := hI.later hb
    have hbw22 := bel_after hbw21 hb
    have z22 := hb.size
    clear KD21 A21 KA21 KG21 MS21 MW21 hI hbw21
    clear hb
    go_wp2_with (fail)
    refine (I _ _ _ _ hci hI22.2.2.1 hI22.2.2.2.1 hIB.2.1 (hC.later hbw22) (cell_later hbw22 hG)).mono ?_
    rintro e W23 ⟨j1, j2, rfl, hJ, hb⟩
    have KD23 := KD22.later hb
    have A23 := A22.later hb
    have KA23 := KA22.later hb
    have KG23 := KG22.later hb
    have MS23 := MS22.later hb
    have MW23 := MW22.later hb
    have hI23 := hI22.later hb
    have hIB23 := hIB.later hb
    have hbw23 := bel_after hbw22 hb
    have z23 := hb.size
    clear KD22 A22 KA22 KG22 MS22 MW22 hI22 hIB hbw22
    clear hI23
    clear hIB23
    have J23 := Disk.DK.of hJ
    clear hJ hb hci
    obtain ⟨ja, jn, jc, rfl⟩ := J23.s1
    obtain ⟨ka, kn, kc, rfl⟩ := J23.s2
    have hB24 := Disk.bel_one W23 (.cells #[.slice ja jn jc, .slice ka kn kc] 27)
    have KD24 := KD23.later hB24
    have A24 := A23.later hB24
    have KA24 := KA23.later hB24
    have KG24 := KG23.later hB24
    have MS24 := MS23.later hB24
    have MW24 := MW23.later hB24
    have J24 := J23.later hB24
    have hbw24 := bel_after hbw23 hB24
    clear KD23 A23 KA23 KG23 MS23 MW23 J23 hbw23
    have KJ24 := Disk.B2.new W23 27 (.slice ja jn jc) (.slice ka kn kc)
    have cKA1 := KA24.1
    have cKA2 := KA24.2
    have cKJ1 := KJ24.1
    have cKJ2 := KJ24.2
    go_wp2_with (fail)
    refine (Disk.eqDisk_any _ _ R R [] [] _ (J24.dr' (by omega) (by simp)) (A24.dr' (by omega) (by simp))).mono ?_
    rintro e W25 ⟨rfl, hb⟩
    clear cKA1 cKA2 cKJ1 cKJ2
    have KD25 := KD24.later hb
    have A25 := A24.later hb
    have KA25 := KA24.later hb
    have KG25 := KG24.later hb
    have MS25 := MS24.later hb
    have MW25 := MW24.later hb
    have J25 := J24.later hb
    have KJ25 := KJ24.later hb
    have hbw25 := bel_after hbw24 hb
    have z25 := hb.size
    simp only [World.size_alloc] at z25
    clear KD24 A24 KA24 KG24 MS24 MW24 J24 KJ24 hbw24
    clear hb
    have cKG1 := KG25.1
    have cKG2 := KG25.2
    go_wp2_with (fail)
    refine (Disk.heldDisk_any _ _ R.length 0 _ _ MS25 MW25 (by omega) (by simp; omega)).mono ?_
    rintro e W26 ⟨rfl, hb⟩
    clear cKG1 cKG2
    have KD26 := KD25.later hb
    have A26 := A25.later hb
    have KA26 := KA25.later hb
    have KG26 := KG25.later hb
    have MS26 := MS25.later hb
    have MW26 := MW25.later hb
    have J26 := J25.later hb
    have KJ26 := KJ25.later hb
    have hbw26 := bel_after hbw25 hb
    have z26 := hb.size
    clear KD25 A25 KA25 KG25 MS25 MW25 J25 KJ25 hbw25
    clear hb
    go_wp2
    go_ret
    exact ⟨rfl, hbw26⟩
-- END

end Go.Proofs.YtfcenohgfhefiaaGreatDoor
