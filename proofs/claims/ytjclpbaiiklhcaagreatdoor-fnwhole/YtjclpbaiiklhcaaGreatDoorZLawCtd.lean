/- The walk of the law FnCommitted. -/
import Derived.Test.YtjclpbaiiklhcaaGreatDoorZV19
import Derived.Test.YtjclpbaiiklhcaaGreatDoorZV22
import Derived.Test.YtjclpbaiiklhcaaGreatDoorZV23
import Derived.Test.YtjclpbaiiklhcaaGreatDoorZV18
import Derived.Test.YtjclpbaiiklhcaaGreatDoorZV14
import Derived.Test.YtjclpbaiiklhcaaGreatDoorZV17
namespace Go.Proofs.YtjclpbaiiklhcaaGreatDoor
open Go.RowKit

theorem capS_of {ao : Option Addr} {n cap : Nat} (h : Disk.CapS (.slice ao n cap)) : n ≤ cap := h.le
theorem hcp_of {v : Value} {w : World} {ss : List ByteArray} (h : Disk.SR w v ss) (c : Disk.CapS v) : ∃ ao cap, v = .slice ao ss.length cap ∧ ss.length ≤ cap := by
  obtain ⟨ao, cap, rfl, _⟩ := h
  exact ⟨ao, cap, rfl, c.le⟩
/-- Commit of the program, where the slice is a letter. -/
theorem implCommit_val (v1 v2 bv : Value) (ss : List ByteArray) (ws : List Disk.Wr) (bs : List ByteArray) (a0 a1 a2 a3 : Addr) (tg : TypeId) (pg : Value) (w : World) (c : Disk.CapS v1)
    (hv1 : Disk.SR w v1 ss) (hv2 : Disk.WR w v2 ws) (h1 : ss.length ≤ 10000000000000) (h2 : ws.length ≤ 10000000000000) (hbv : Disk.SR w bv bs) (h3 : bs.length ≤ 10000000000000) (hC : Ctx a0 a1 a2 a3 w) (hG : w.cell? ⟨0, 0, none⟩ = some (.iface tg pg)) :
    Calls Tryz.prog 7 #[.agg #[v1, v2], bv] w fun e w' => ∃ u1 u2, e = .returned (.tuple #[.agg #[u1, u2], .bool (scrOk ss ws bs)]) ∧ Disk.ND w.heap.size w' u1 u2 (commitS ss ws bs) [] ∧ Below w.heap.size w w' ∧ Disk.CapS u1 := by
  obtain ⟨ao, cap, rfl, hle⟩ := hcp_of hv1 c
  exact implCommit_cap ao cap v2 bv ss ws bs a0 a1 a2 a3 tg pg w hv1 hle hv2 h1 h2 hbv h3 hC hG
theorem implScript_val (v1 v2 bv : Value) (ss : List ByteArray) (ws : List Disk.Wr) (bs : List ByteArray) (a0 a1 a2 a3 : Addr) (tg : TypeId) (pg : Value) (w : World) (c : Disk.CapS v1)
    (hv1 : Disk.SR w v1 ss) (hv2 : Disk.WR w v2 ws) (h1 : ss.length ≤ 10000000000000) (h2 : ws.length ≤ 10000000000000) (hbv : Disk.SR w bv bs) (h3 : bs.length ≤ 10000000000000) (hC : Ctx a0 a1 a2 a3 w) (hG : w.cell? ⟨0, 0, none⟩ = some (.iface tg pg)) :
    Calls Tryz.prog 10 #[.agg #[v1, v2], bv] w fun x w' => (∃ v, x = .returned v ∧ Disk.NW w.heap.size w' v (scriptR ss ws bs)) ∧ Below w.heap.size w w' := by
  obtain ⟨ao, cap, rfl, hle⟩ := hcp_of hv1 c
  exact implScript_any ao cap v2 bv ss ws bs a0 a1 a2 a3 tg pg w hv1 hle hv2 h1 h2 hbv h3 hC hG
theorem sr_text {w : World} {B : Nat} {v : Value} {ss : List ByteArray} (h : w.ownsRow B 9 1 v ss.length (tcells ss)) : Disk.SR w v ss := (ns_of_own h).2.1

set_option maxRecDepth 100000 in
set_option maxHeartbeats 12000000 in
theorem lawCommitted_any (cv : Value) (cs : List UInt8) (a0 a1 a2 a3 : Addr) (tg : TypeId) (pg : Value) (w : World) (hc : BR w cv cs) (hC : Ctx a0 a1 a2 a3 w) (hG : w.cell? ⟨0, 0, none⟩ = some (.iface tg pg)) :
    Calls Tryz.prog 3 #[cv] w fun x w' => x = .returned (.bool true) ∧ Below w.heap.size w w' := by
  have BG := big_any cv cs w hc
  by_cases hbig : 4096 < cs.length
  · rw [decide_eq_true hbig] at BG
    go_enter Tryz.func3, Tryz.ntmps3
    go_wp2_with (go_at_call 5; refine BG.mono ?_; rintro x w' ⟨rfl, rfl⟩)
    go_ret
    exact ⟨rfl, Below.refl _ _⟩
  rw [decide_eq_false hbig] at BG
  have DP := drawCommit_any cv cs w hc (by omega)
  go_enter Tryz.func3, Tryz.ntmps3
  go_wp2_with fail
  refine BG.mono ?_
  rintro x w0 ⟨rfl, rfl⟩
  clear BG
  go_wp2_with fail
  refine DP.mono ?_
  rintro x w1 ⟨⟨u1, u2, bv, ss, ws, bs, rfl, s1, s2, s3, l1, l2, l3, cp, _, _, _, _⟩, hb1⟩
  clear DP
  have t1 := s1
  have t2 := s2
  have t3 := s3
  obtain ⟨p1, k1, rfl, _⟩ := s1
  obtain ⟨p2, k2, rfl, _⟩ := s2
  obtain ⟨p3, k3, rfl, _⟩ := s3
  have hC1 := hC.later hb1
  have hG1 := cell_later hb1 hG
  have PI := fun W (hb : Below w1.heap.size w1 W) => implCommit_val (.slice p1 ss.length k1) (.slice p2 ws.length k2) (.slice p3 bs.length k3) ss ws bs a0 a1 a2 a3 tg pg W cp (t1.later hb) (t2.later hb) (by omega) (by omega) (t3.later hb) (by omega) (hC1.later hb) (cell_later hb hG1)
  have PS := fun W (hb : Below w1.heap.size w1 W) => specCommit_any (.slice p1 ss.length k1) (.slice p2 ws.length k2) (.slice p3 bs.length k3) ss ws bs W (t1.later hb) (t2.later hb) (by omega) (by omega) (t3.later hb) (by omega)
  have SI := fun W (hb : Below w1.heap.size w1 W) => implScript_val (.slice p1 ss.length k1) (.slice p2 ws.length k2) (.slice p3 bs.length k3) ss ws bs a0 a1 a2 a3 tg pg W cp (t1.later hb) (t2.later hb) (by omega) (by omega) (t3.later hb) (by omega) (hC1.later hb) (cell_later hb hG1)
  have SS := fun W (hb : Below w1.heap.size w1 W) => specScript_any (.slice p1 ss.length k1) (.slice p2 ws.length k2) (.slice p3 bs.length k3) ss ws bs W (t1.later hb) (t2.later hb) (by omega) (by omega) (t3.later hb) (by omega)
  have NI := fun W (hb : Below w1.heap.size w1 W) => implNewest_cap (.slice p1 ss.length k1) (.slice p2 ws.length k2) ss ws a0 a1 a2 a3 W (t1.later hb) (t2.later hb) (by omega) (by omega) (hcp_of (t1.later hb) cp) (hC1.later hb)
  have NI : Hid (∀ W (hb : Below w1.heap.size w1 W), _) := NI
  have B3 : Hid (∀ W (hb : Below w1.heap.size w1 W), Disk.SR W (.slice p3 bs.length k3) bs ∧ Ctx a0 a1 a2 a3 W ∧ W.cell? ⟨0, 0, none⟩ = some (.iface tg pg)) := fun W hb => ⟨t3.later hb, hC1.later hb, cell_later hb hG1⟩
  have LC : Hid ((commitS ss ws bs).length ≤ 64 ∧ (scriptR ss ws bs).length ≤ 100 ∧ bs.length ≤ 31) := ⟨by
    cases h : scrOk ss ws bs
    · rw [commitS_no h]; exact Nat.zero_le _
    · rw [commitS_yes h, doneS_length]; exact l1, by
    cases h : scrOk ss ws bs
    · rw [scriptR_no h]; exact Nat.zero_le _
    · rw [scriptR_yes h]; have := (scrW_length ss bs).2; omega, l3⟩
  generalize hok : scrOk ss ws bs = ok at PI PS
  generalize hR : commitS ss ws bs = R at PI PS LC
  generalize hQ : scriptR ss ws bs = Q at SI SS LC
  have hok : Hid (scrOk ss ws bs = ok) := hok
  have hR : Hid (commitS ss ws bs = R) := hR
  have hQ : Hid (scriptR ss ws bs = Q) := hQ
  clear t1 t2 t3 hC1 hG1 cp l1 l2 l3 hbig
  go_wp2_with fail
  have hA := Disk.bel_one w1 (.cells #[.slice p1 ss.length k1, .slice p2 ws.length k2] 27)
  refine (PI _ hA).mono ?_
  rintro x w2 ⟨x1, x2, rfl, nX, hb2, cX⟩
  obtain ⟨b1, m1, j1, rfl⟩ := nX.s1
  obtain ⟨b2, m2, j2, rfl⟩ := nX.s2
  have hB := Disk.bel_one w2 (.cells #[.slice b1 m1 j1, .slice b2 m2 j2] 27)
  have xA := ((Bx.new w1 (.slice p1 ss.length k1) (.slice p2 ws.length k2)).later hb2).later hB
  have y0 := xA.c0
  have y1 := xA.c1
  have bl3 := bel_after (bel_after hA hb2) hB
  clear PI
  go_wp2_with fail
  refine (PS _ bl3).mono ?_
  rintro x w3 ⟨q1, q2, rfl, nQ, hb3⟩
  clear PS y0 y1
  obtain ⟨c1, i1, e1, rfl⟩ := nQ.s1
  obtain ⟨c2, i2, e2, rfl⟩ := nQ.s2
  have hD := Disk.bel_one w3 (.cells #[.slice c1 i1 e1, .slice c2 i2 e2] 27)
  have xB := ((Bx.new w2 (.slice b1 m1 j1) (.slice b2 m2 j2)).later hb3).later hD
  have xA := (xA.later hb3).later hD
  have z0 := xB.c0
  have z1 := xB.c1
  have bl4 := bel_after bl3 (bel_after hb3 hD)
  have r1 := ((nX.2.2.1.later hB).later hb3).later hD
  have r2 := ((nX.2.2.2.1.later hB).later hb3).later hD
  have LK := likeDisk_same _ _ _ _ R [] _ r1 (nQ.2.2.1.later hD) r2 (nQ.2.2.2.1.later hD) (by have := LC.out.1; omega) (by simp)
  clear nX nQ hA hb2 hB bl3 hb3 hD
  go_wp2_with fail
  refine LK.mono ?_
  rintro x w5 ⟨rfl, hb5⟩
  clear LK z0 z1
  have xA := xA.later hb5
  have xB := xB.later hb5
  have r1 := r1.later hb5
  have r2 := r2.later hb5
  have bl5 := bel_after bl4 hb5
  have y0 := xA.c0
  have y1 := xA.c1
  clear bl4 hb5
  go_wp2_with fail
  refine (SI _ bl5).mono ?_
  rintro x w6 ⟨⟨sv, rfl, nS⟩, hb6⟩
  clear SI y0 y1
  have nS := nS.2.1
  have nS' := nS
  obtain ⟨sa, sk, rfl, _⟩ := nS'
  have xA := xA.later hb6
  have xB := xB.later hb6
  have r1 := r1.later hb6
  have r2 := r2.later hb6
  have bl6 := bel_after bl5 hb6
  have y0 := xA.c0
  have y1 := xA.c1
  clear bl5 hb6
  go_wp2_with fail
  refine (SS _ bl6).mono ?_
  rintro x w7 ⟨⟨tv, rfl, nT⟩, hb7⟩
  clear SS y0 y1
  have nT := nT.2.1
  have nT' := nT
  obtain ⟨ta, tk, rfl, _⟩ := nT'
  have xA := xA.later hb7
  have xB := xB.later hb7
  have r1 := r1.later hb7
  have r2 := r2.later hb7
  have bl7 := bel_after bl6 hb7
  have LW := likeWrites_same _ _ Q w7 (nS.later hb7) nT (by have := LC.out.2.1; omega)
  clear bl6 hb7 nS nT
  go_wp2_with fail
  refine LW.mono ?_
  rintro x w8 ⟨rfl, hb8⟩
  clear LW
  have xA := xA.later hb8
  have xB := xB.later hb8
  have r1 := r1.later hb8
  have r2 := r2.later hb8
  have bl8 := bel_after bl7 hb8
  have z0 := xB.c0
  have z1 := xB.c1
  have y0 := xA.c0
  have y1 := xA.c1
  clear bl7 hb8
  cases ok
  · have eQ : Q = [] := by rw [← hQ.out, scriptR_no hok.out]
    have eR : R = [] := by rw [← hR.out, commitS_no hok.out]
    clear hQ hR hok NI B3 LC y0 y1 xA
    subst eQ
    subst eR
    have LZ := likeDisk_same _ _ (.slice none 0 0) (.slice none 0 0) _ _ _ r1 ⟨none, 0, rfl, fun i hi => absurd hi (by simp)⟩ r2 ⟨none, 0, rfl, fun i hi => absurd hi (by simp)⟩ (by simp) (by simp)
    clear xB r1 r2
    go_wp2_with fail
    refine LZ.mono ?_
    rintro x w9 ⟨rfl, hb9⟩
    go_wp2
    go_ret
    exact ⟨rfl, bel_after hb1 (bel_after bl8 hb9)⟩
  · have F1 := newest_less hok.out
    have F2 := newest_commit hok.out
    have F3 := pages_commit hok.out
    have F4 := (scrW_length ss bs).1
    have F5 := (scrW_length ss bs).2
    have F6 := script_again hok.out
    rw [← scriptR_yes hok.out, hQ.out] at F4 F5
    rw [← commitS_yes hok.out, hR.out] at F2 F3 F6
    have F2 : Hid ((newestR R []).1 = lastE ss + 1) := (by rw [F2] : (newestR R []).1 = lastE ss + 1)
    have F3 : Hid (pagesR R [] = bs) := F3
    have F6 : Hid ((scrW R bs).length = 1) := F6
    have F1 : Hid ((newestR ss ws).1 < lastE ss + 1) := F1
    have G4 : decide ((1 : Int) ≤ (Q.length : Int)) = true := by simp; omega
    have G5 : decide ((Q.length : Int) ≤ (bs.length : Int) + 1) = true := by simp; omega
    have H5 : Hid (Q.length ≤ 100) := LC.out.2.1
    have b31 : bs.length ≤ 31 := LC.out.2.2
    clear hQ hR hok F4 F5
    go_wp2_with fail
    refine (NI.out _ bl8).mono ?_
    rintro x w9 ⟨⟨nv, rfl, nO⟩, hb9⟩
    clear NI nO y0 y1 z0 z1 xA
    have xB := xB.later hb9
    have r1 := r1.later hb9
    have r2 := r2.later hb9
    have bl9 := bel_after bl8 hb9
    have z0 := xB.c0
    have z1 := xB.c1
    have PG := implPages_cap _ _ R [] a0 a1 a2 a3 w9 r1 r2 (by have := LC.out.1; omega) (by simp) (hcp_of r1 cX) (B3.out _ bl9).2.1
    rw [F2.out, F3.out] at PG
    generalize hE : lastE ss + 1 = E1 at *
    generalize (newestR ss ws).1 = E0 at *
    have GT : decide (E0 < E1) = true := by have := F1.out; simp; exact this
    clear bl8 hb9 hE F1 F2 F3
    go_wp2_with fail
    refine PG.mono ?_
    rintro x w10 ⟨⟨pv, rfl, oP⟩, hb10⟩
    clear PG z0 z1
    have sP := sr_text oP
    have sP' := sP
    obtain ⟨pa, pk, rfl, _⟩ := sP'
    have xB := xB.later hb10
    have r1 := r1.later hb10
    have r2 := r2.later hb10
    have bl10 := bel_after bl9 hb10
    have z0 := xB.c0
    have z1 := xB.c1
    have CI := implCommit_val _ _ (.slice p3 bs.length k3) R [] bs a0 a1 a2 a3 tg pg w10 cX r1 r2 (by have := LC.out.1; omega) (by simp) (B3.out _ bl10).1 (by have := LC.out.2.2; omega) (B3.out _ bl10).2.1 (B3.out _ bl10).2.2
    clear bl9 hb10 oP
    cases hok2 : scrOk R [] bs
    · rw [hok2, commitS_no hok2] at CI
      clear hok2
      go_wp2_with fail
      refine CI.mono ?_
      rintro x w11 ⟨y1', y2', rfl, nY, hb11, cY⟩
      clear CI z0 z1
      obtain ⟨d1, n1, g1, rfl⟩ := nY.s1
      obtain ⟨d2, n2, g2, rfl⟩ := nY.s2
      have hE := Disk.bel_one w11 (.cells #[.slice d1 n1 g1, .slice d2 n2 g2] 27)
      have bl12 := bel_after (bel_after bl10 hb11) hE
      have PG2 := implPages_cap (.slice d1 n1 g1) (.slice d2 n2 g2) [] [] a0 a1 a2 a3 _ (nY.2.2.1.later hE) (nY.2.2.2.1.later hE) (by simp) (by simp) (hcp_of (nY.2.2.1.later hE) cY) (B3.out _ bl12).2.1
      have sP := (sP.later hb11).later hE
      clear nY
      go_wp2_with fail
      refine PG2.mono ?_
      rintro x w13 ⟨⟨qv, rfl, oQ⟩, hb13⟩
      clear PG2 oQ
      have bl13 := bel_after bl12 hb13
      have LT := likeTexts_same _ _ bs w13 (sP.later hb13) (B3.out _ bl13).1 (by have := LC.out.2.2; omega)
      go_wp2_with fail
      refine LT.mono ?_
      rintro x w14 ⟨rfl, hb14⟩
      go_wp2
      go_ret
      exact ⟨rfl, bel_after hb1 (bel_after bl13 hb14)⟩
    · have PC2 := pages_commit hok2
      have SY := scriptR_yes hok2
      rw [← commitS_yes hok2] at PC2
      have SL : Hid ((scriptR R [] bs).length = 1) := (by rw [SY]; exact F6.out : (scriptR R [] bs).length = 1)
      have LC2 : Hid ((commitS R [] bs).length ≤ 64) := (by rw [commitS_yes hok2, doneS_length]; exact LC.out.1 : (commitS R [] bs).length ≤ 64)
      rw [hok2] at CI
      generalize commitS R [] bs = R2 at *
      have PC2 : Hid (pagesR R2 [] = bs) := PC2
      clear hok2 SY F6
      go_wp2_with fail
      refine CI.mono ?_
      rintro x w11 ⟨y1', y2', rfl, nY, hb11, cY⟩
      clear CI z0 z1
      obtain ⟨d1, n1, g1, rfl⟩ := nY.s1
      obtain ⟨d2, n2, g2, rfl⟩ := nY.s2
      have hE := Disk.bel_one w11 (.cells #[.slice d1 n1 g1, .slice d2 n2 g2] 27)
      have bl12 := bel_after (bel_after bl10 hb11) hE
      have PG2 := implPages_cap (.slice d1 n1 g1) (.slice d2 n2 g2) R2 [] a0 a1 a2 a3 _ (nY.2.2.1.later hE) (nY.2.2.2.1.later hE) (by have := LC2.out; omega) (by simp) (hcp_of (nY.2.2.1.later hE) cY) (B3.out _ bl12).2.1
      rw [PC2.out] at PG2
      have sP := (sP.later hb11).later hE
      have xB := (xB.later hb11).later hE
      have r1 := (r1.later hb11).later hE
      have r2 := (r2.later hb11).later hE
      clear nY
      generalize (newestR R2 []).1 = E2 at *
      go_wp2_with fail
      refine PG2.mono ?_
      rintro x w13 ⟨⟨qv, rfl, oQ⟩, hb13⟩
      clear PG2
      have sQ := sr_text oQ
      have sQ' := sQ
      obtain ⟨qa, qk, rfl, _⟩ := sQ'
      clear oQ
      have bl13 := bel_after bl12 hb13
      have xB := xB.later hb13
      have r1 := r1.later hb13
      have r2 := r2.later hb13
      have LT := likeTexts_same _ _ bs w13 (sP.later hb13) (B3.out _ bl13).1 (by have := LC.out.2.2; omega)
      go_wp2_with fail
      refine LT.mono ?_
      rintro x w14 ⟨rfl, hb14⟩
      clear LT
      have bl14 := bel_after bl13 hb14
      have xB := xB.later hb14
      have r1 := r1.later hb14
      have r2 := r2.later hb14
      have LT2 := likeTexts_same _ _ bs w14 (sQ.later hb14) (B3.out _ bl14).1 (by have := LC.out.2.2; omega)
      go_wp2_with fail
      refine LT2.mono ?_
      rintro x w15 ⟨rfl, hb15⟩
      clear LT2
      have bl15 := bel_after bl14 hb15
      have xB := xB.later hb15
      have r1 := r1.later hb15
      have r2 := r2.later hb15
      have z0 := xB.c0
      have z1 := xB.c1
      have SX := implScript_val _ _ (.slice p3 bs.length k3) R [] bs a0 a1 a2 a3 tg pg w15 cX r1 r2 (by have := LC.out.1; omega) (by simp) (B3.out _ bl15).1 (by have := LC.out.2.2; omega) (B3.out _ bl15).2.1 (B3.out _ bl15).2.2
      go_wp2_with fail
      refine SX.mono ?_
      rintro x w16 ⟨⟨rv, rfl, nR⟩, hb16⟩
      clear SX
      have nR := nR.2.1
      obtain ⟨ra, rk, rfl, _⟩ := nR
      rw [SL.out]
      go_wp2
      go_ret
      exact ⟨rfl, bel_after hb1 (bel_after bl15 hb16)⟩

end Go.Proofs.YtjclpbaiiklhcaaGreatDoor
