/- The walk of the law FnCrashed. -/
import Derived.Test.YtddocjmjianajaaZLikeD
import Derived.Test.YtddocjmjianajaaZDrawC
import Derived.Test.YtddocjmjianajaaZPick
import Derived.Test.YtddocjmjianajaaZDImplCrash
import Derived.Test.YtddocjmjianajaaZHeldT
import Derived.BigQuiet
namespace Go.Proofs.Ytddocjmjianajaa
open Go.RowKit

theorem sr_at {w : World} {ao : Option Addr} {cap : Nat} {ss : List ByteArray} (h : Disk.SR w (.slice ao ss.length cap) ss) (hn : 0 < ss.length) : ∃ b o, ao = some ⟨b, o, none⟩ ∧ ∀ j, j < ss.length → w.cell? ⟨b, o + j, none⟩ = some (.string (ss.getD j ByteArray.empty)) := by
  obtain ⟨a, c, e, h⟩ := h
  injection e with e1 _ _
  subst e1
  obtain ⟨b, o, rfl, _⟩ := h 0 hn
  refine ⟨b, o, rfl, fun j hj => ?_⟩
  obtain ⟨b', o', e, hc⟩ := h j hj
  injection e with e
  injection e with e1 e2 _
  subst e1 e2
  exact hc
theorem wr_at {w : World} {ao : Option Addr} {cap : Nat} {ws : List Disk.Wr} (h : Disk.WR w (.slice ao ws.length cap) ws) (j : Nat) (hj : j < ws.length) : ∃ b o, ao = some ⟨b, o, none⟩ ∧ w.cell? ⟨b, o + j * 2, none⟩ = some (.int .i64 (ws.getD j Disk.wr0).1) ∧ w.cell? ⟨b, o + j * 2 + 1, none⟩ = some (.string (ws.getD j Disk.wr0).2) := by
  obtain ⟨a, c, e, h⟩ := h
  injection e with e1 _ _
  subst e1
  exact h j hj

/-- What the law needs to know of the disk behind a crash. -/
structure CrOk (tn : Int) (ss : List ByteArray) (ws : List Disk.Wr) (cr : List ByteArray) : Prop where
  ok : Disk.okD cr [] = true
  l : cr.length = 64
  l0 : ss.length = 64
  s : ∀ s : Nat, cr.getD s ByteArray.empty = ss.getD s ByteArray.empty ∨ ∃ i, i < ws.length ∧ (ws.getD i Disk.wr0).1 = (s : Int) ∧ (cr.getD s ByteArray.empty = (ws.getD i Disk.wr0).2 ∨ (i : Int) = tn)
/-- No late write up to k accounts for the sector. -/
def NoneTill (tn : Int) (ws : List Disk.Wr) (x : ByteArray) (s : Nat) (k : Nat) : Prop := ∀ i, i < k → ¬ ((ws.getD i Disk.wr0).1 = (s : Int) ∧ (x = (ws.getD i Disk.wr0).2 ∨ (i : Int) = tn))

def Fnd (tn : Int) (ws : List Disk.Wr) (X Z : ByteArray) (s k : Nat) (fb : Bool) : Prop := fb = false → X ≠ Z ∧ NoneTill tn ws X s k

set_option maxRecDepth 100000 in
set_option maxHeartbeats 12000000 in
theorem lawCrashed_any (cv : Value) (cs : List UInt8) (w : World) (hc : BR w cv cs) :
    Calls Try.prog 4 #[cv] w fun x w' => x = .returned (.bool true) ∧ Below w.heap.size w w' := by
  have BG := big_any cv cs w hc
  by_cases hbig : 4096 < cs.length
  · rw [decide_eq_true hbig] at BG
    go_enter Try.func4, Try.ntmps4
    go_wp2_with (go_at_call 5; refine BG.mono ?_; rintro x w' ⟨rfl, rfl⟩)
    go_ret
    exact ⟨rfl, Below.refl _ _⟩
  rw [decide_eq_false hbig] at BG
  have DP := drawCrash_any cv cs w hc (by omega)
  go_enter Try.func4, Try.ntmps4
  go_wp2_with fail
  refine BG.mono ?_
  rintro x w0 ⟨rfl, rfl⟩
  clear BG
  go_wp2_with fail
  refine DP.mono ?_
  rintro x w1 ⟨⟨u1, u2, vl, ss, ws, bs, tn, rfl, s1, s2, s3, l1, l2, l3⟩, hb1⟩
  clear DP hc hbig
  obtain ⟨a1, k1, e1, _⟩ := id s1
  obtain ⟨a2, k2, e2, _⟩ := id s2
  subst e1
  subst e2
  have CI := fun W (q : Below w1.heap.size w1 W) => Disk.implCrash_any (.slice a1 ss.length k1) (.slice a2 ws.length k2) vl ss ws bs tn W (s1.later q) (s2.later q) (s3.later q) (by omega) (by omega)
  have CS := fun W (q : Below w1.heap.size w1 W) => Disk.specCrash_any (.slice a1 ss.length k1) (.slice a2 ws.length k2) vl ss ws bs tn W (s1.later q) (s2.later q) (s3.later q) (by omega) (by omega) (by omega)
  have OK := fun W (q : Below w1.heap.size w1 W) => Disk.implDiskOk_any (.slice a1 ss.length k1) (.slice a2 ws.length k2) ss ws W (s1.later q) (s2.later q) (by omega) (by omega)
  have NOC : Hid (Disk.okD ss ws = false → Disk.crashS bs tn ss ws = []) := fun h => by
    unfold Disk.crashS
    rw [if_neg (by rw [h]; simp)]
  have YES : Hid (Disk.okD ss ws = true → CrOk tn ss ws (Disk.crashS bs tn ss ws)) := fun h => ⟨Disk.crash_ok h, (Disk.okD_all (Disk.crash_ok h)).1, (Disk.okD_all h).1, fun s => Disk.crash_sector h s⟩
  have CL : Hid ((Disk.crashS bs tn ss ws).length ≤ 64) := (by
    cases h : Disk.okD ss ws
    · rw [NOC.out h]; simp
    · rw [(YES.out h).l]; omega : (Disk.crashS bs tn ss ws).length ≤ 64)
  generalize Disk.crashS bs tn ss ws = cr at *
  have hA := Disk.bel_one w1 (.cells #[.slice a1 ss.length k1, .slice a2 ws.length k2] 27)
  have bD := Bx.new w1 (.slice a1 ss.length k1) (.slice a2 ws.length k2)
  go_wp2_with fail
  refine (CI _ hA).mono ?_
  rintro x w2 ⟨x1, x2, rfl, nX, hb2⟩
  clear CI
  obtain ⟨xa, xc, rfl⟩ : ∃ a c, x1 = .slice a cr.length c := by
    obtain ⟨a, c, e, _⟩ := nX.2.2.1
    exact ⟨a, c, e⟩
  obtain ⟨xd, xe, rfl⟩ : ∃ a c, x2 = .slice a 0 c := by
    obtain ⟨a, c, e, _⟩ := nX.2.2.2.1
    exact ⟨a, c, e⟩
  have hB := Disk.bel_one w2 (.cells #[.slice xa cr.length xc, .slice xd 0 xe] 27)
  have bX := Bx.new w2 (.slice xa cr.length xc) (.slice xd 0 xe)
  have rX1 := nX.2.2.1.later hB
  have rX2 := nX.2.2.2.1.later hB
  have b13 := bel_after (bel_after hA hb2) hB
  have bD := (bD.later hb2).later hB
  generalize hw3 : w2.alloc (.cells #[.slice xa cr.length xc, .slice xd 0 xe] 27) = w3 at *
  have s1 := s1.later b13
  have s2 := s2.later b13
  have bl3 := bel_after hb1 b13
  have CS := fun W (q : Below w3.heap.size w3 W) => CS W (bel_after b13 q)
  have OK := fun W (q : Below w3.heap.size w3 W) => OK W (bel_after b13 q)
  have KC : Hid (∀ W : World, Below w3.heap.size w3 W → (W.cell? ⟨w1.heap.size, 0, none⟩ = some (.slice a1 ss.length k1) ∧ W.cell? ⟨w1.heap.size, 1, none⟩ = some (.slice a2 ws.length k2)) ∧ (W.cell? ⟨w2.heap.size, 0, none⟩ = some (.slice xa cr.length xc) ∧ W.cell? ⟨w2.heap.size, 1, none⟩ = some (.slice xd 0 xe))) := fun W q => ⟨⟨(bD.later q).c0, (bD.later q).c1⟩, (bX.later q).c0, (bX.later q).c1⟩
  have LK := fun W (q : Below w3.heap.size w3 W) u1 u2 B (n : Disk.ND B W u1 u2 cr []) => likeDisk_same (.slice xa cr.length xc) (.slice xd 0 xe) u1 u2 cr [] W (rX1.later q) n.2.2.1 (rX2.later q) n.2.2.2.1 (by have := CL.out; omega) (by simp)
  have OX := fun W (q : Below w3.heap.size w3 W) => Disk.implDiskOk_any (.slice xa cr.length xc) (.slice xd 0 xe) cr [] W (rX1.later q) (rX2.later q) (by have := CL.out; omega) (by simp)
  have HD0 : Hid (Below w3.heap.size w3 w3.drew) := (Below.refl _ _).drew
  clear nX hA hB b13 s3 hb1 hb2 bD bX l3
  go_wp2_with fail
  clear hw3
  go_region_held3 (fun W => Below w3.heap.size w3 W ∧ (W.cell? ⟨w1.heap.size, 0, none⟩ = some (.slice a1 ss.length k1) ∧ W.cell? ⟨w1.heap.size, 1, none⟩ = some (.slice a2 ws.length k2)) ∧ (W.cell? ⟨w2.heap.size, 0, none⟩ = some (.slice xa cr.length xc) ∧ W.cell? ⟨w2.heap.size, 1, none⟩ = some (.slice xd 0 xe)))
    (first | assumption | (exact ⟨HD0.out, KC.out _ HD0.out⟩) | (exact ⟨bel_after (And.left (by assumption)) (by assumption), KC.out _ (bel_after (And.left (by assumption)) (by assumption))⟩))
    (first
      | (go_at_call 15; with_reducible refine (CS _ (And.left (by assumption))).mono ?_; rintro x w4 ⟨y1, y2, rfl, nY, hc4⟩)
      | (go_at_call 9; with_reducible refine (LK _ (And.left (by assumption)) _ _ _ nY).mono ?_; rintro x w5 ⟨rfl, hc5⟩))
  have hb5 : Below w3.heap.size w3 w5 := bel_after (bel_after HD0.out hc4) hc5
  clear hc4 hc5 nY HD0 CS LK
  obtain ⟨⟨p0, p1⟩, x0, x1⟩ := KC.out w5 hb5
  cases hok : Disk.okD ss ws
  · have hcr := NOC.out hok
    subst hcr
    have OK5 := OK w5 hb5
    rw [hok] at OK5
    clear hok
    go_wp2_with fail
    refine OK5.mono ?_
    rintro x w6 ⟨rfl, hb6⟩
    go_wp2
    go_ret
    exact ⟨rfl, bel_after (bel_after bl3 hb5) hb6⟩
  · have Y : Hid (CrOk tn ss ws cr) := YES.out hok
    clear hok YES NOC
    have h64 : Hid (cr.length = 64) := Y.out.l
    have g64' : Hid (ss.length = 64) := Y.out.l0
    have hne : ((cr.length : Int) == 0) = false := by have := h64.out; rw [this]; rfl
    obtain ⟨xb, xo, rfl, hx⟩ := sr_at rX1 (by have := h64.out; omega)
    obtain ⟨sb, so, rfl, hs⟩ := sr_at s1 (by have := g64'.out; omega)
    have HX : Hid (∀ W : World, Below w3.heap.size w3 W → ∀ j, j < 64 → W.cell? ⟨xb, xo + j, none⟩ = some (.string (cr.getD j ByteArray.empty)) ∧ W.cell? ⟨sb, so + j, none⟩ = some (.string (ss.getD j ByteArray.empty))) := fun W q j hj => ⟨cell_later q (hx j (by have := h64.out; omega)), cell_later q (hs j (by have := g64'.out; omega))⟩
    have HW : Hid (∀ W : World, Below w3.heap.size w3 W → ∀ j, j < ws.length → ∃ b o, a2 = some ⟨b, o, none⟩ ∧ W.cell? ⟨b, o + j * 2, none⟩ = some (.int .i64 (ws.getD j Disk.wr0).1) ∧ W.cell? ⟨b, o + j * 2 + 1, none⟩ = some (.string (ws.getD j Disk.wr0).2)) := fun W q j hj => wr_at (s2.later q) j hj
    clear hx hs s1 s2 rX1 rX2 OK
    go_wp2
    clear p0 p1 x0 x1
    have b05 := bel_after bl3 hb5
    have FIN : Hid (∀ W : World, Below w3.heap.size w3 W → Below w0.heap.size w0 W) := fun W q => bel_after bl3 q
    go_loopw [7] (fun sv wr => ∃ (j : Nat), sv = .int .i64 j ∧ j ≤ 64 ∧ Below w3.heap.size w3 wr) (fun sv _ => 64 - (intOf sv).toNat)
    case atStart => exact ⟨0, rfl, by omega, hb5⟩
    case round =>
      clear hb5 b05 bl3
      obtain ⟨j, rfl, hj, hbr⟩ := hrel
      obtain ⟨⟨p0, p1⟩, x0, x1⟩ := KC.out wr hbr
      by_cases hlt : j < 64
      · have hlt' : decide ((j : Int) < 64) = true := by simp; omega
        obtain ⟨cx, cd⟩ := HX.out wr hbr j hlt
        have hz0 : (0 : Int) ≤ (j : Int) := by omega
        have hz1 : (j : Int) < (cr.length : Int) := by have := h64.out; omega
        have hz2 : (j : Int) < (ss.length : Int) := by have := g64'.out; omega
        have SC := Y.out.s j
        have KX : ∀ W : World, Below w3.heap.size w3 W → W.cell? ⟨xb, xo + j, none⟩ = some (.string (cr.getD j ByteArray.empty)) := fun W q => (HX.out W q j hlt).1
        generalize cr.getD j ByteArray.empty = X at cx SC KX
        generalize ss.getD j ByteArray.empty = Z at cd SC
        have SC : Hid (X = Z ∨ ∃ i, i < ws.length ∧ (ws.getD i Disk.wr0).1 = (j : Int) ∧ (X = (ws.getD i Disk.wr0).2 ∨ (i : Int) = tn)) := SC
        have KX : Hid (∀ W : World, Below w3.heap.size w3 W → W.cell? ⟨xb, xo + j, none⟩ = some (.string X)) := KX
        have KD : Hid (wr.drew.cell? ⟨w2.heap.size, 0, none⟩ = some (.slice (some ⟨xb, xo, none⟩) cr.length xc) ∧ wr.drew.cell? ⟨w1.heap.size, 0, none⟩ = some (.slice (some ⟨sb, so, none⟩) ss.length k1) ∧ wr.drew.cell? ⟨xb, xo + j, none⟩ = some (.string X) ∧ wr.drew.cell? ⟨sb, so + j, none⟩ = some (.string Z)) := (⟨x0, p0, cx, cd⟩ : wr.drew.cell? ⟨w2.heap.size, 0, none⟩ = some (.slice (some ⟨xb, xo, none⟩) cr.length xc) ∧ wr.drew.cell? ⟨w1.heap.size, 0, none⟩ = some (.slice (some ⟨sb, so, none⟩) ss.length k1) ∧ wr.drew.cell? ⟨xb, xo + j, none⟩ = some (.string X) ∧ wr.drew.cell? ⟨sb, so + j, none⟩ = some (.string Z))
        go_wp2_with fail
        go_region_held3 (fun W => W.cell? ⟨w2.heap.size, 0, none⟩ = some (.slice (some ⟨xb, xo, none⟩) cr.length xc) ∧ W.cell? ⟨w1.heap.size, 0, none⟩ = some (.slice (some ⟨sb, so, none⟩) ss.length k1) ∧ W.cell? ⟨xb, xo + j, none⟩ = some (.string X) ∧ W.cell? ⟨sb, so + j, none⟩ = some (.string Z))
          (first | assumption | exact KD.out)
          (fail)
        clear KD x0 x1 p0 p1 cx cd
        go_wp2_with fail
        go_loopw [8, 9] (fun fv iv wq => ∃ (k : Nat) (fb : Bool), iv = .int .i64 k ∧ fv = .bool fb ∧ k ≤ ws.length ∧ Below w3.heap.size w3 wq ∧ Fnd tn ws X Z j k fb) (fun _ iv _ => ws.length - (intOf iv).toNat)
        case atStart => exact ⟨0, _, rfl, rfl, Nat.zero_le _, hbr.drew, fun h => ⟨fun e => by rw [e] at h; simp at h, fun i hi => absurd hi (by omega)⟩⟩
        case round =>
          clear hbr
          obtain ⟨k, fb, rfl, rfl, hk, hbq, hf⟩ := hrel
          obtain ⟨⟨p0, p1⟩, x0, x1⟩ := KC.out wr hbq
          have cx := KX.out wr hbq
          by_cases hkl : k < ws.length
          · have hk0 : (0 : Int) ≤ (k : Int) := by omega
            have hk1 : (k : Int) < (ws.length : Int) := by omega
            obtain ⟨b, o, rfl, c0, c1⟩ := HW.out wr hbq k hkl
            have NX : Hid (∀ fb', (fb' = false → fb = false ∧ ¬ ((ws.getD k Disk.wr0).1 = (j : Int) ∧ (X = (ws.getD k Disk.wr0).2 ∨ (k : Int) = tn))) → Fnd tn ws X Z j (k + 1) fb') := fun fb' h e => by
              obtain ⟨h1, h2⟩ := h e
              obtain ⟨h3, h4⟩ := hf h1
              refine ⟨h3, fun i hi => ?_⟩
              rcases Nat.lt_or_ge i k with h | h
              · exact h4 i h
              · obtain rfl : i = k := by omega
                exact h2
            generalize (ws.getD k Disk.wr0).1 = st at *
            generalize (ws.getD k Disk.wr0).2 = tx at *
            clear hf
            go_wp2_with fail
            clear p0 x1
            by_cases hA : st = (j : Int)
            · have hA' : (st == (j : Int)) = true := by simp [hA]
              replace hA : Hid (st = (j : Int)) := hA
              by_cases hB : X.toList = tx.toList
              · have hB' : (X.toList == tx.toList) = true := by simp [hB]
                clear hB
                go_quiet (fail)
                all_goals go_wp2
                all_goals exact ⟨⟨k + 1, _, by go_num, rfl, by omega, ⟨hbq.os, hbq.tape, hbq.output, hbq.size, hbq.block⟩, NX.out _ (fun h => by cases h)⟩, by simp [intOf]; omega⟩
              · have hB' : (X.toList == tx.toList) = false := by simp [hB]
                replace hB : Hid (¬ X = tx) := fun e => hB (by rw [e])
                by_cases hC : (k : Int) = tn
                · have hC' : ((k : Int) == tn) = true := by simp [hC]
                  replace hC : Hid ((k : Int) = tn) := hC
                  go_quiet (fail)
                  all_goals go_wp2
                  all_goals exact ⟨⟨k + 1, _, by go_num, rfl, by omega, ⟨hbq.os, hbq.tape, hbq.output, hbq.size, hbq.block⟩, NX.out _ (fun h => by cases h)⟩, by simp [intOf]; omega⟩
                · have hC' : ((k : Int) == tn) = false := by simp [hC]
                  replace hC : Hid (¬ (k : Int) = tn) := hC
                  go_quiet (fail)
                  all_goals go_wp2
                  all_goals exact ⟨⟨k + 1, _, by go_num, rfl, by omega, ⟨hbq.os, hbq.tape, hbq.output, hbq.size, hbq.block⟩, NX.out _ (fun h => ⟨h, fun q => q.2.elim hB.out hC.out⟩)⟩, by simp [intOf]; omega⟩
            · have hA' : (st == (j : Int)) = false := by simp [hA]
              replace hA : Hid (¬ st = (j : Int)) := hA
              go_quiet (fail)
              all_goals go_wp2
              all_goals exact ⟨⟨k + 1, _, by go_num, rfl, by omega, ⟨hbq.os, hbq.tape, hbq.output, hbq.size, hbq.block⟩, NX.out _ (fun h => ⟨h, fun q => hA.out q.1⟩)⟩, by simp [intOf]; omega⟩
          · have hk1 : decide ((k : Int) < (ws.length : Int)) = false := by simp; omega
            have hkk : k = ws.length := by omega
            have hfb : fb = true := by
              cases fb
              · obtain ⟨h1, h2⟩ := hf rfl
                rcases SC.out with h | ⟨i, hi, h3⟩
                · exact absurd h h1
                · exact absurd h3 (h2 i (by omega))
              · rfl
            subst hfb
            clear hkk
            go_wp2
            exact ⟨⟨j + 1, by go_num, by omega, hbq⟩, by simp [intOf]; omega⟩
      · have hlt' : decide ((j : Int) < 64) = false := by simp; omega
        have OXr := OX wr hbr
        rw [Y.out.ok] at OXr
        go_wp2_with fail
        refine OXr.mono ?_
        rintro x w6 ⟨rfl, hb6⟩
        go_wp2
        go_ret
        exact ⟨rfl, FIN.out _ (bel_after hbr hb6)⟩

end Go.Proofs.Ytddocjmjianajaa
