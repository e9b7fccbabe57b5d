/- The walk of the law FnHeld. -/
import Derived.Test.YtddocjmjianajaaZLikeD
import Derived.Test.YtddocjmjianajaaZDrawPt
import Derived.Test.YtddocjmjianajaaZPick
import Derived.Test.YtddocjmjianajaaZDImplPut
import Derived.Test.YtddocjmjianajaaZDImplCrash
import Derived.Test.YtddocjmjianajaaZDBools
import Derived.Test.YtddocjmjianajaaZHeldT
namespace Go.Proofs.Ytddocjmjianajaa
open Go.RowKit

set_option maxRecDepth 100000 in
set_option maxHeartbeats 12000000 in
theorem lawHeld_any (cv : Value) (cs : List UInt8) (w : World) (hc : BR w cv cs) :
    Calls Try.prog 3 #[cv] w fun x w' => x = .returned (.bool true) ∧ Below w.heap.size w w' := by
  have BG := big_any cv cs w hc
  by_cases hbig : 4096 < cs.length
  · rw [decide_eq_true hbig] at BG
    go_enter Try.func3, Try.ntmps3
    go_wp2_with (go_at_call 5; refine BG.mono ?_; rintro x w' ⟨rfl, rfl⟩)
    go_ret
    exact ⟨rfl, Below.refl _ _⟩
  rw [decide_eq_false hbig] at BG
  have DP := drawPut_any cv cs w hc (by omega)
  go_enter Try.func3, Try.ntmps3
  go_wp2_with fail
  refine BG.mono ?_
  rintro x w0 ⟨rfl, rfl⟩
  clear BG
  go_wp2_with fail
  refine DP.mono ?_
  rintro x w1 ⟨⟨u1, u2, ss, ws, sec, t, rfl, s1, s2, l1, l2⟩, hb1⟩
  clear DP
  obtain ⟨a1, k1, rfl, s1⟩ := s1
  obtain ⟨a2, k2, rfl, s2⟩ := s2
  have PI := fun W (hb : Below w1.heap.size w1 W) => Disk.implPut_any (.slice a1 ss.length k1) (.slice a2 ws.length k2) ss ws sec t W (Disk.SR.later ⟨a1, k1, rfl, s1⟩ hb) (Disk.WR.later ⟨a2, k2, rfl, s2⟩ hb) (by omega) (by omega)
  have PS := fun W (hb : Below w1.heap.size w1 W) => Disk.specPut_any (.slice a1 ss.length k1) (.slice a2 ws.length k2) ss ws sec t W (Disk.SR.later ⟨a1, k1, rfl, s1⟩ hb) (Disk.WR.later ⟨a2, k2, rfl, s2⟩ hb) (by omega) (by omega)
  clear s1 s2
  have LP : Hid ((Disk.putS ss ws sec t).length ≤ 64 ∧ (Disk.putW ss ws sec t).length ≤ 301) := (by
    unfold Disk.putS Disk.putW
    constructor
    · split
      · exact l1
      · simp
    · split
      · rw [List.length_append]; show ws.length + 1 ≤ 301; omega
      · simp : (Disk.putS ss ws sec t).length ≤ 64 ∧ (Disk.putW ss ws sec t).length ≤ 301)
  generalize hok : Disk.putOk ss ws sec t = ok at PI PS
  go_wp2_with fail
  have hA := Disk.bel_one w1 (.cells #[.slice a1 ss.length k1, .slice a2 ws.length k2] 27)
  refine (PI _ hA).mono ?_
  rintro x w2 ⟨p1, p2, rfl, nP, hb2⟩
  obtain ⟨b1, m1, j1, rfl⟩ := nP.s1
  obtain ⟨b2, m2, j2, rfl⟩ := nP.s2
  have hB := Disk.bel_one w2 (.cells #[.slice b1 m1 j1, .slice b2 m2 j2] 27)
  have xA := ((Bx.new w1 (.slice a1 ss.length k1) (.slice a2 ws.length k2)).later hb2).later hB
  have y0 := xA.c0
  have y1 := xA.c1
  have bl3 := bel_after (bel_after hA hb2) hB
  have PS3 := PS _ bl3
  clear PI PS
  go_wp2_with fail
  refine PS3.mono ?_
  rintro x w3 ⟨q1, q2, rfl, nQ, hb3⟩
  clear PS3 y0 y1 xA
  obtain ⟨c1, i1, e1, rfl⟩ := nQ.s1
  obtain ⟨c2, i2, e2, rfl⟩ := nQ.s2
  have hC := Disk.bel_one w3 (.cells #[.slice c1 i1 e1, .slice c2 i2 e2] 27)
  have xB := ((Bx.new w2 (.slice b1 m1 j1) (.slice b2 m2 j2)).later hb3).later hC
  have z0 := xB.c0
  have z1 := xB.c1
  have bl4 := bel_after (bel_after hb1 bl3) (bel_after hb3 hC)
  have r1 := ((nP.2.2.1.later hB).later hb3).later hC
  have r2 := ((nP.2.2.2.1.later hB).later hb3).later hC
  have LK := likeDisk_same _ _ _ _ _ _ _ r1 (nQ.2.2.1.later hC) r2 (nQ.2.2.2.1.later hC) (by have := LP.out.1; omega) (by have := LP.out.2; omega)
  clear nP nQ hA hb2 hB bl3 hb3 hC
  cases ok
  · go_wp2_with fail
    refine LK.mono ?_
    rintro x w5 ⟨rfl, hb5⟩
    clear LK
    have xB5 := xB.later hb5
    have z0 := xB5.c0
    have z1 := xB5.c1
    have t1 := r1.later hb5
    have t2 := r2.later hb5
    have bl5 := bel_after bl4 hb5
    rw [Disk.putS_false hok] at t1
    rw [Disk.putW_false hok] at t2
    have LZ := likeDisk_same _ _ (.slice none 0 0) (.slice none 0 0) _ _ _ t1 ⟨none, 0, rfl, fun i hi => absurd hi (by simp)⟩ t2 ⟨none, 0, rfl, fun i hi => absurd hi (by simp)⟩ (by simp) (by simp)
    clear xB r1 r2
    go_wp2_with fail
    refine LZ.mono ?_
    rintro x w6 ⟨rfl, hb6⟩
    go_wp2
    go_ret
    exact ⟨rfl, bel_after bl5 hb6⟩
  · go_wp2_with fail
    refine LK.mono ?_
    rintro x w5 ⟨rfl, hb5⟩
    clear LK
    have xB5 := xB.later hb5
    have z0 := xB5.c0
    have z1 := xB5.c1
    rw [Disk.putS_true hok] at r1
    rw [Disk.putW_true hok] at r2
    have t1 := r1.later hb5
    have t2 := r2.later hb5
    have bl5 := bel_after bl4 hb5
    have LW : Hid ((ws ++ [(sec, t)]).length ≤ 301) := (by rw [List.length_append]; show ws.length + 1 ≤ 301; omega : (ws ++ [(sec, t)]).length ≤ 301)
    have HD := Disk.implHold_any _ _ _ _ _ t1 t2 (by omega) (by have := LW.out; omega)
    clear xB r1 r2
    have okP := Disk.put_ok hok
    have seeP := Disk.see_put hok
    obtain ⟨P0, P1, P2⟩ := Disk.putOk_parts hok
    have l64 : Hid (ss.length = 64) := (Disk.okD_all P0).1
    have seeP : Hid (Disk.seeT ss (ws ++ [(sec, t)]) sec = t) := seeP
    have okP : Hid (Disk.okD ss (ws ++ [(sec, t)]) = true) := okP
    have hok : Hid (Disk.putOk ss ws sec t = true) := hok
    clear P0 P2 P1
    generalize ws ++ [(sec, t)] = wp at *
    go_wp2_with fail
    refine HD.mono ?_
    rintro x w6 ⟨h1, h2, rfl, nH, hb6⟩
    clear HD
    have hokH : Hid (Disk.okD (Disk.holdS ss wp) [] = true) := Disk.hold_ok okP.out
    have seeH : Hid (∀ j : Nat, j < 64 → Disk.seeT ss wp (j : Int) = (Disk.holdS ss wp).getD j ByteArray.empty) := fun j hj => by
      rw [Disk.see_held okP.out (by omega) (by omega)]
      rfl
    have h64 := (Disk.okD_all hokH.out).1
    obtain ⟨hb, hcap, eh, _, _, hcell, _⟩ := Disk.NS.form (show Disk.NS w5.heap.size w6 h1 (Disk.holdS ss wp) from ⟨nH.1, nH.2.2.1, nH.2.2.2.2.1⟩) (by rw [h64]; omega)
    obtain ⟨g2, n2, o2, rfl⟩ := nH.s2
    rw [h64] at eh
    subst eh
    have em : m2 = wp.length := by
      obtain ⟨_, _, em, _⟩ := id t2
      injection em
    subst em
    have h64 : Hid ((Disk.holdS ss wp).length = 64) := h64
    have hH := Disk.bel_one w6 (.cells #[.slice (some ⟨hb, 0, none⟩) 64 hcap, .slice g2 n2 o2] 27)
    have xH := Bx.new w6 (.slice (some ⟨hb, 0, none⟩) 64 hcap) (.slice g2 n2 o2)
    have xP := (xB5.later hb6).later hH
    have t1 := (t1.later hb6).later hH
    have t2 := (t2.later hb6).later hH
    have bl7 := bel_after bl5 (bel_after hb6 hH)
    have nH1 := nH.2.2.1.later hH
    have nH2 := nH.2.2.2.1.later hH
    have hcell : Hid (∀ k, k < 64 → (w6.alloc (.cells #[.slice (some ⟨hb, 0, none⟩) 64 hcap, .slice g2 n2 o2] 27)).cell? ⟨hb, k, none⟩ = some (.string ((Disk.holdS ss wp).getD k ByteArray.empty))) := fun k hk => cell_later hH (hcell k (by have := h64.out; omega))
    clear xB5 z0 z1 bl5 hb6 nH hb1 hb5 bl4 hok LP
    go_wp2
    generalize w6.alloc (.cells #[.slice (some ⟨hb, 0, none⟩) 64 hcap, .slice g2 n2 o2] 27) = W7 at *
    go_loopw [11] (fun nv wr => ∃ (j : Nat), nv = .int .i64 j ∧ j ≤ 66 ∧ Below W7.heap.size W7 wr) (fun nv _ => 66 - (intOf nv).toNat)
    case atStart => exact ⟨0, rfl, by omega, Below.refl _ _⟩
    case round =>
      obtain ⟨j, rfl, hj, hbr⟩ := hrel
      have cP0 := (xP.later hbr).c0
      have cP1 := (xP.later hbr).c1
      by_cases hlt : j < 64
      · have hlt' : decide ((j : Int) < 64) = true := by simp; omega
        have SE := fun W (hb : Below W7.heap.size W7 W) => Disk.implSee_any _ _ _ _ (j : Int) W (t1.later hb) (t2.later hb) (by omega) (by have := LW.out; omega)
        rw [seeH.out j hlt] at SE
        have cj := hcell.out j (by omega)
        have hz4 : (j : Int) < 64 := by omega
        have hz0 : (0 : Int) ≤ (j : Int) := by omega
        generalize (Disk.holdS ss wp).getD j ByteArray.empty = s at SE cj
        have SS : Hid (∀ W : World, Below W7.heap.size W7 W → W.cell? ⟨w2.heap.size, 0, none⟩ = some (.slice b1 m1 j1) ∧ W.cell? ⟨w2.heap.size, 1, none⟩ = some (.slice b2 wp.length j2) ∧ W.cell? ⟨w6.heap.size, 0, none⟩ = some (.slice (some ⟨hb, 0, none⟩) 64 hcap) ∧ W.cell? ⟨hb, j, none⟩ = some (.string s)) := fun W hb => ⟨(xP.later hb).c0, (xP.later hb).c1, (xH.later hb).c0, cell_later hb cj⟩
        clear cP0 cP1
        go_wp2_with fail
        go_region_held3 (fun W => Below W7.heap.size W7 W ∧ W.cell? ⟨w2.heap.size, 0, none⟩ = some (.slice b1 m1 j1) ∧ W.cell? ⟨w2.heap.size, 1, none⟩ = some (.slice b2 wp.length j2) ∧ W.cell? ⟨w6.heap.size, 0, none⟩ = some (.slice (some ⟨hb, 0, none⟩) 64 hcap) ∧ W.cell? ⟨hb, j, none⟩ = some (.string s))
          (first | assumption | (exact ⟨hbr.drew, SS.out _ hbr.drew⟩) | (exact ⟨bel_after (And.left (by assumption)) (by assumption), SS.out _ (bel_after (And.left (by assumption)) (by assumption))⟩))
          (first | (go_at_call 11; with_reducible refine (SE _ (And.left (by assumption))).mono ?_; rintro x w8 ⟨rfl, hb8⟩))
        all_goals go_wp2
        all_goals exact ⟨⟨j + 3, by go_num, by omega, bel_after hbr.drew hb8⟩, by simp [intOf]; omega⟩
      · have hlt' : decide ((j : Int) < 64) = false := by simp; omega
        have hmk : ∀ W : World, (Instr.makeSlice 35 (.int .i64 (wp.length : Int)) (.int .i64 (wp.length : Int))).run Try.prog W = .ok (.slice (some ⟨W.heap.size, 0, none⟩) wp.length wp.length) (W.alloc (.cells (madeCells #[.bool false] wp.length) 4)) := Disk.make43 wp.length (by have := LW.out; omega)
        have hm := World.rowIs_made wr (.bool false) wp.length 4
        have bA := bel_after hbr (Disk.bel_one wr (.cells (madeCells #[.bool false] wp.length) 4))
        have szA := hbr.size
        go_wp2
        clear cP0 cP1
        generalize hbn : wr.heap.size = bn at *
        go_loopw [13] (fun nv w' => ∃ (k : Nat), nv = .int .i64 k ∧ k ≤ wp.length ∧ Below W7.heap.size W7 w' ∧ w'.rowIs bn 4 wp.length (fun i => .bool (decide (i < k)))) (fun nv _ => wp.length - (intOf nv).toNat)
        case atStart => exact ⟨0, rfl, by omega, bA, hm.congr (fun i _ => by simp)⟩
        case round =>
          clear hm bA
          obtain ⟨k, rfl, hk, hbk, hrow⟩ := hrel
          by_cases hkl : k < wp.length
          · have hk1 : (k : Int) < (wp.length : Int) := by omega
            have hk0 : (0 : Int) ≤ (k : Int) := by omega
            have ck := hrow.cell hkl
            have fk := hrow.frozen k
            have R : (wr.setCell ⟨bn, k, none⟩ (.bool true)).rowIs bn 4 wp.length (fun i => .bool (decide (i < k + 1))) := (hrow.set k (.bool true)).congr (fun i _ => by
              by_cases e : i = k
              · simp [e]
              · simp [e]; omega)
            have G := hbk.setCell (p := ⟨bn, k, none⟩) szA (.bool true)
            have hl301 := LW.out
            clear hrow
            go_wp2
            exact ⟨⟨k + 1, by go_num, by omega, G, R⟩, by simp [intOf]; omega⟩
          · have hkd : (k : Int) < (wp.length : Int) → False := fun h => hkl (by omega)
            have SRx : Hid (∀ W : World, Below W7.heap.size W7 W → Disk.SR W (.slice b1 m1 j1) ss ∧ Disk.WR W (.slice b2 wp.length j2) wp ∧ Disk.SR W (.slice (some ⟨hb, 0, none⟩) 64 hcap) (Disk.holdS ss wp) ∧ Disk.WR W (.slice g2 n2 o2) []) := fun W q => ⟨t1.later q, t2.later q, nH1.later q, nH2.later q⟩
            have CX : Hid (∀ W : World, Below W7.heap.size W7 W → (W.cell? ⟨w2.heap.size, 0, none⟩ = some (.slice b1 m1 j1) ∧ W.cell? ⟨w2.heap.size, 1, none⟩ = some (.slice b2 wp.length j2)) ∧ (W.cell? ⟨w6.heap.size, 0, none⟩ = some (.slice (some ⟨hb, 0, none⟩) 64 hcap) ∧ W.cell? ⟨w6.heap.size, 1, none⟩ = some (.slice g2 n2 o2))) := fun W q => ⟨⟨(xP.later q).c0, (xP.later q).c1⟩, (xH.later q).c0, (xH.later q).c1⟩
            have LRx : Disk.LR wr (.slice (some ⟨bn, 0, none⟩) wp.length wp.length) (List.replicate wp.length true) := ⟨some ⟨bn, 0, none⟩, wp.length, by simp, fun i hi => ⟨bn, 0, rfl, by
              simp only [List.length_replicate] at hi
              rw [Nat.zero_add, hrow.cell hi]
              have : i < k := by omega
              simp [this, hi]⟩⟩
            have CRx := Disk.implCrash_any _ _ _ ss wp (List.replicate wp.length true) (-1) wr (SRx.out wr hbk).1 (SRx.out wr hbk).2.1 LRx (by have := l64.out; omega) (by have := LW.out; omega)
            have CRy := fun W v (q : Below W7.heap.size W7 W) (r : Disk.LR W v []) => Disk.implCrash_any _ _ v ss wp [] (-1) W (SRx.out W q).1 (SRx.out W q).2.1 r (by have := l64.out; omega) (by have := LW.out; omega)
            rw [Disk.crash_all] at CRx
            rw [Disk.crash_none okP.out] at CRy
            obtain ⟨⟨cP0, cP1⟩, -⟩ := CX.out wr hbk
            clear hrow LRx xP xH t1 t2 nH1 nH2 hcell
            go_wp2_with fail
            refine CRx.mono ?_
            rintro x w8 ⟨x1, x2, rfl, nX, hb8⟩
            clear CRx cP0 cP1
            obtain ⟨xa, xn, xc, rfl⟩ := nX.s1
            obtain ⟨xd, xm, xe, rfl⟩ := nX.s2
            have al8 := Disk.bel_one w8 (.cells #[.slice xa xn xc, .slice xd xm xe] 27)
            have bX := Bx.new w8 (.slice xa xn xc) (.slice xd xm xe)
            have hb9 := bel_after (bel_after hbk hb8) al8
            have rX1 := nX.2.2.1.later al8
            have rX2 := nX.2.2.2.1.later al8
            generalize hw9 : w8.alloc (.cells #[.slice xa xn xc, .slice xd xm xe] 27) = w9 at *
            obtain ⟨⟨cP0, cP1⟩, -⟩ := CX.out w9 hb9
            clear nX hb8 hbk
            go_wp2_with fail
            have al9 := Disk.bel_one w9 (.cells #[] 4)
            refine (CRy _ _ (bel_after hb9 al9) ⟨some ⟨w9.heap.size, 0, none⟩, 0, rfl, fun i hi => absurd hi (by simp)⟩).mono ?_
            rintro x w10 ⟨y1, y2, rfl, nY, hb10⟩
            clear CRy cP0 cP1
            obtain ⟨ya, yn, yc, rfl⟩ := nY.s1
            obtain ⟨yd, ye, rfl⟩ : ∃ a c, y2 = .slice a 0 c := by
              obtain ⟨a, c, e, _⟩ := nY.2.2.2.1
              exact ⟨a, c, e⟩
            have al10 := Disk.bel_one w10 (.cells #[.slice ya yn yc, .slice yd 0 ye] 27)
            have bY := Bx.new w10 (.slice ya yn yc) (.slice yd 0 ye)
            have b911 := bel_after (bel_after al9 hb10) al10
            have hb11 := bel_after hb9 b911
            have bX := bX.later b911
            have rX1 := rX1.later b911
            have rX2 := rX2.later b911
            have rY1 := nY.2.2.1.later al10
            generalize hw11 : w10.alloc (.cells #[.slice ya yn yc, .slice yd 0 ye] 27) = w11 at *
            clear hw9
            clear nY hb10 al9 al10 b911 hb9
            have FIN : Below w0.heap.size w0 w11 := bel_after bl7 hb11
            have KC : Hid (∀ W : World, Below w11.heap.size w11 W → (W.cell? ⟨w2.heap.size, 0, none⟩ = some (.slice b1 m1 j1) ∧ W.cell? ⟨w2.heap.size, 1, none⟩ = some (.slice b2 wp.length j2)) ∧ (W.cell? ⟨w6.heap.size, 0, none⟩ = some (.slice (some ⟨hb, 0, none⟩) 64 hcap) ∧ W.cell? ⟨w6.heap.size, 1, none⟩ = some (.slice g2 n2 o2)) ∧
                (W.cell? ⟨w8.heap.size, 0, none⟩ = some (.slice xa xn xc) ∧ W.cell? ⟨w8.heap.size, 1, none⟩ = some (.slice xd xm xe)) ∧ (W.cell? ⟨w10.heap.size, 0, none⟩ = some (.slice ya yn yc) ∧ W.cell? ⟨w10.heap.size, 1, none⟩ = some (.slice yd 0 ye))) := fun W q => by
              have q7 := bel_after hb11 q
              exact ⟨(CX.out W q7).1, (CX.out W q7).2, ⟨(bX.later q).c0, (bX.later q).c1⟩, (bY.later q).c0, (bY.later q).c1⟩
            have SE := fun W (q : Below w11.heap.size w11 W) => Disk.implSee_any _ _ ss wp sec W (SRx.out W (bel_after hb11 q)).1 (SRx.out W (bel_after hb11 q)).2.1 (by have := l64.out; omega) (by have := LW.out; omega)
            rw [seeP.out] at SE
            have LX := fun W (q : Below w11.heap.size w11 W) => likeDisk_same (.slice xa xn xc) (.slice xd xm xe) (.slice (some ⟨hb, 0, none⟩) 64 hcap) (.slice g2 n2 o2) _ _ W (rX1.later q) (SRx.out W (bel_after hb11 q)).2.2.1 (rX2.later q) (SRx.out W (bel_after hb11 q)).2.2.2 (by have := h64.out; omega) (by simp)
            have LY := fun W (q : Below w11.heap.size w11 W) => likeTexts_same (.slice ya yn yc) (.slice b1 m1 j1) ss W (rY1.later q) (SRx.out W (bel_after hb11 q)).1 (by have := l64.out; omega)
            have HO := fun W (q : Below w11.heap.size w11 W) => Disk.implHold_any (.slice (some ⟨hb, 0, none⟩) 64 hcap) (.slice g2 n2 o2) _ _ W (SRx.out W (bel_after hb11 q)).2.2.1 (SRx.out W (bel_after hb11 q)).2.2.2 (by have := h64.out; omega) (by simp)
            rw [Disk.hold_again okP.out] at HO
            have LH := fun W (q : Below w11.heap.size w11 W) u1 u2 B (n : Disk.ND B W u1 u2 (Disk.holdS ss wp) []) => likeDisk_same u1 u2 (.slice (some ⟨hb, 0, none⟩) 64 hcap) (.slice g2 n2 o2) _ _ W n.2.2.1 (SRx.out W (bel_after hb11 q)).2.2.1 n.2.2.2.1 (SRx.out W (bel_after hb11 q)).2.2.2 (by have := h64.out; omega) (by simp)
            clear rX1 rX2 rY1 bX bY CX SRx
            clear l64 LW okP seeP hokH seeH h64 hc l1 l2 hbig
            have HD0 : Hid (Below w11.heap.size w11 w11.drew) := (Below.refl _ _).drew
            go_wp2_with fail
            clear hw11
            go_region_held3 (fun W => Below w11.heap.size w11 W ∧ (W.cell? ⟨w2.heap.size, 0, none⟩ = some (.slice b1 m1 j1) ∧ W.cell? ⟨w2.heap.size, 1, none⟩ = some (.slice b2 wp.length j2)) ∧ (W.cell? ⟨w6.heap.size, 0, none⟩ = some (.slice (some ⟨hb, 0, none⟩) 64 hcap) ∧ W.cell? ⟨w6.heap.size, 1, none⟩ = some (.slice g2 n2 o2)) ∧
                (W.cell? ⟨w8.heap.size, 0, none⟩ = some (.slice xa xn xc) ∧ W.cell? ⟨w8.heap.size, 1, none⟩ = some (.slice xd xm xe)) ∧ (W.cell? ⟨w10.heap.size, 0, none⟩ = some (.slice ya yn yc) ∧ W.cell? ⟨w10.heap.size, 1, none⟩ = some (.slice yd 0 ye)))
              (first | assumption | (exact ⟨HD0.out, KC.out _ HD0.out⟩) | (exact ⟨bel_after (And.left (by assumption)) (by assumption), KC.out _ (bel_after (And.left (by assumption)) (by assumption))⟩))
              (first
                | (go_at_call 11; with_reducible refine (SE _ (And.left (by assumption))).mono ?_; rintro x ws1 ⟨rfl, hc1⟩)
                | (go_at_call 13; with_reducible refine (LY _ (And.left (by assumption))).mono ?_; rintro x ws3 ⟨rfl, hc3⟩)
                | (go_at_call 10; with_reducible refine (HO _ (And.left (by assumption))).mono ?_; rintro x ws4 ⟨u1, u2, rfl, nU, hc4⟩)
                | (go_at_call 9; with_reducible refine (LH _ (And.left (by assumption)) _ _ _ nU).mono ?_; rintro x ws5 ⟨rfl, hc5⟩)
                | (go_at_call 9; with_reducible refine (LX _ (And.left (by assumption))).mono ?_; rintro x ws2 ⟨rfl, hc2⟩))
            all_goals go_wp2
            all_goals go_ret
            all_goals exact ⟨rfl, bel_after FIN (And.left (by assumption))⟩

end Go.Proofs.Ytddocjmjianajaa
