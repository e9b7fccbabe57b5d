/- A disk drawn: the walk. -/
import Derived.Test.YtjclpbaiiklhcaaGreatDoorZDrawF
namespace Go.Proofs.YtjclpbaiiklhcaaGreatDoor
open Go.RowKit

set_option maxRecDepth 100000 in
set_option maxHeartbeats 3200000 in
theorem Dw.diskC {N : Nat} {cv : Value} {cs : List UInt8} {w : World} (h : Dw N cv cs w) (hN : N < w.heap.size) :
    Calls Tryz.prog 48 #[.pointer (some ⟨N, 0, none⟩)] w fun x w' => (∃ (u1 u2 : Value) (ss : List ByteArray) (ws : List Disk.Wr), x = .returned (.agg #[u1, u2]) ∧ Disk.SR w' u1 ss ∧ Disk.WR w' u2 ws ∧ ss.length ≤ 64 ∧ ws.length ≤ 300 ∧ (ss.length = 64 → Disk.NS w.heap.size w' u1 ss ∧ Disk.NO w.heap.size w' u2 ws ∧ ∀ i, i < 2 → Inv 0 (textAt ss i).data.toList) ∧ Low w.heap.size u1 ∧ Low w.heap.size u2 ∧ Disk.CapS u1 ∧ ∀ s ∈ ss, s.size ≤ 257) ∧ w.grownBy w' (some N) ∧ Dw N cv cs w' := by
  have hA := Disk.bel_one w (.cells #[.slice none 0 0, .slice none 0 0] 27)
  have ND0 := Disk.specNewDisk_nil (w.alloc (.cells #[.slice none 0 0, .slice none 0 0] 27))
  go_enter Tryz.func48, Tryz.ntmps48
  go_wp2_with fail
  refine ND0.mono ?_
  rintro x w1 ⟨u1, rfl, hN1, hb1, hcp1⟩
  clear ND0
  have hb1' := bel_after hA hb1
  have sz1 : w.heap.size < w1.heap.size := (by have := hb1.size; simp at this; omega)
  have d1 := h.later hb1' hN
  obtain ⟨za, zn, zc, rfl⟩ := hN1.s1
  have hB := Disk.bel_one w1 (.cells #[.slice za zn zc, .slice none 0 0] 27)
  have hb2 := bel_after hb1' hB
  have d2 := h.later hb2 hN
  have hN2 := hN1.later hB
  have rs2 := ((Bx.new w (.slice none 0 0) (.slice none 0 0)).later hb1).later hB
  have bx2 := Bx.new w1 (.slice za zn zc) (.slice none 0 0)
  have gw2 : w.grownBy (w1.alloc (.cells #[.slice za zn zc, .slice none 0 0] 27)) (some N) := ⟨hb2.os, hb2.tape, hb2.output, hb2.size, fun k hk _ => hb2.block k hk⟩
  have s0 : w.heap.size ≤ (w.alloc (.cells #[.slice none 0 0, .slice none 0 0] 27)).heap.size := hA.size
  have DD : Dd w N cv cs w1.heap.size (w1.alloc (.cells #[.slice za zn zc, .slice none 0 0] 27)) (.slice za zn zc) (.slice none 0 0) Disk.es64 [] := ⟨d2, gw2, bx2, sz1, rs2, ⟨hN2.1, hN2.2.2.1, fun b e => Nat.le_trans s0 (hN2.2.2.2.2.1 b e)⟩, .inl ⟨none, rfl, rfl⟩, Disk.es64_length, by simp, hcp1, fun s hs => by obtain ⟨_, rfl⟩ := List.mem_replicate.1 hs; exact Nat.zero_le _⟩
  have B0 := d2.below 4 (by omega) (by omega)
  clear hN2 hN1 hA hb1 hcp1 bx2 gw2 hb1' hB hb2 d1 d2 s0
  go_wp2_with fail
  refine B0.mono ?_
  rintro x w3 ⟨⟨z, rfl, z0, z1⟩, g3, d3⟩
  clear B0
  have D3 := DD.step hN g3 d3
  obtain ⟨cn, rfl⟩ := Int.eq_ofNat_of_zero_le z0
  clear DD g3 d3
  go_wp2
  go_loopw [4] (fun nv wr => ∃ (j : Nat) (u1 u2 : Value) (ss : List ByteArray) (ws : List Disk.Wr), nv = .int .i64 j ∧ j ≤ 4 ∧ Dd w N cv cs w1.heap.size wr u1 u2 ss ws ∧ ws.length ≤ 201 ∧ OkL (4 - j) ss) (fun nv _ => (intOf nv).toNat)
  case atStart => exact ⟨cn, _, _, _, _, rfl, by omega, D3, by simp, fun i hi => .inl (by unfold textAt Disk.es64; rw [List.getD_eq_getElem?_getD, List.getElem?_replicate, if_pos (by omega)]; rfl)⟩
  case round =>
    clear D3
    obtain ⟨j, p1, p2, ss, ws, rfl, hj, hD, hw2, hok0⟩ := hrel
    have HO : Hid (OkL (4 - j) ss) := hok0
    clear hok0
    have HW : Hid (ws.length ≤ 201) := hw2
    obtain ⟨q1, r1, e1, _⟩ := id hD.ns.1
    obtain ⟨q2, r2, e2, _⟩ := id hD.nw.1
    subst e1
    subst e2
    have c0 := hD.bx.c0
    have c1 := hD.bx.c1
    have szr := hD.gr.size
    by_cases hlt : 0 < j
    · have hlt' : decide ((0 : Int) < (j : Int)) = true := by simp; omega
      go_wp2_with fail
      go_cut [5, 6] (fun pv iv wc => ∃ (SB : Nat) (a1 : Option Addr) (n1 k1 : Nat) (a2 : Option Addr) (n2 k2 : Nat) (ok : Bool) (ss' : List ByteArray) (ws' : List Disk.Wr), pv = .pointer (some ⟨SB, 0, none⟩) ∧ iv = .bool ok ∧ wc.cell? ⟨SB, 0, none⟩ = some (.slice a1 n1 k1) ∧ wc.cell? ⟨SB, 1, none⟩ = some (.slice a2 n2 k2) ∧ Sx wr N cv cs wc ∧ Disk.NS w.heap.size wc (.slice a1 n1 k1) ss' ∧ Disk.NO w.heap.size wc (.slice a2 n2 k2) ws' ∧ (ok = true → (ss'.length = 64 ∧ n1 ≤ k1 ∧ ∀ s ∈ ss', s.size ≤ 257) ∧ ∀ m, OkL m ss → OkL (m + 1) ss') ∧ ws'.length ≤ 201)
      case first =>
        go_region_held3 (fun w' => w'.cell? ⟨w1.heap.size, 0, none⟩ = some (.slice q1 ss.length r1) ∧ w'.cell? ⟨w1.heap.size, 1, none⟩ = some (.slice q2 ws.length r2) ∧ Sx wr N cv cs w')
          (first | assumption | (exact mkS hD hN (gdrew (World.grownBy.refl _ _)) hD.dw.drew) | (exact mkSa hD hN (by assumption) _) | (exact mkS hD hN sB.1 sB.2) | (exact mkS hD hN sC.1 sC.2) | (exact mkS hD hN (gdrew sB.1) sB.2.drew) | (exact mkSa hD hN (mkS hD hN sC.1 sC.2) _) | (exact mkSs hD hN (mkS hD hN sC.1 sC.2) (Nat.le_refl _) _ _) | (exact mkSs hD hN (mkS hD hN sC.1 sC.2) sB.1.size _ _))
          (first
            | (go_at_call 24; refine (bodiesK' hD hN (by assumption)).mono ?_; rintro x w5 ⟨bv, bs, rfl, hb5, hl5, sB, gB⟩; (first | (refine zBd gB (by omega) ?_; intro zb) | (refine zB gB (by omega) ?_; intro zb) | skip))
            | (go_at_call 8; refine (commitK hD hN (by assumption) ?_ hl5).mono ?_; (focus (first | exact hb5 | exact hb5.later (Disk.bel_one _ _) | exact hb5.later (Disk.bel_one _ _).drew)); rintro x w6 ⟨a1, n1, k1, a2, n2, k2, ok, ss', ws', rfl, sC, nsC, nwC, lC1, lC2, bC⟩; (first | (refine zC bC zb ?_; intro y0 y1 yf0 yf1 zc) | (refine zC bC (Bx.new w5 (.slice none 0 0) (.slice none 0 0)) ?_; intro y0 y1 yf0 yf1 zc) | skip)))
        all_goals go_wp2_with fail
        all_goals go_meet
        · exact ⟨w6.heap.size, a1, n1, k1, a2, n2, k2, ok, ss', ws', rfl, rfl, (Bx.new w6 _ _).c0, (Bx.new w6 _ _).c1, (mkSa hD hN (mkS hD hN sC.1 sC.2) _).2.2, (nsC.mono (Nat.le_trans szr sB.1.size)).later (Disk.bel_one _ _), (nwC.mono (Nat.le_trans szr sB.1.size)).later (Disk.bel_one _ _), lC1, lC2⟩
        · have hlt2 : w5.heap.size < (w5.alloc (.cells #[.slice none 0 0, .slice none 0 0] 27)).heap.size := by simp
          exact ⟨w5.heap.size, a1, n1, k1, a2, n2, k2, ok, ss', ws', rfl, rfl, (zc.set _ _).c0, (zc.set _ _).c1, (mkSs hD hN (mkS hD hN sC.1 sC.2) sB.1.size _ _).2.2, ((nsC.store (b := w5.heap.size) (o := 0) _ hlt2).store (b := w5.heap.size) (o := 1) _ hlt2).mono (Nat.le_trans szr (Nat.le_trans sB.1.size (Nat.le_of_lt hlt2))), ((nwC.store (b := w5.heap.size) (o := 0) _ hlt2).store (b := w5.heap.size) (o := 1) _ hlt2).mono (Nat.le_trans szr (Nat.le_trans sB.1.size (Nat.le_of_lt hlt2))), lC1, lC2⟩
        · have hlt2 : wr.heap.size < w5.heap.size := zb.lt
          exact ⟨wr.heap.size, a1, n1, k1, a2, n2, k2, ok, ss', ws', rfl, rfl, (zc.set _ _).c0, (zc.set _ _).c1, (mkSs hD hN (mkS hD hN sC.1 sC.2) (Nat.le_refl _) _ _).2.2, ((nsC.store (b := wr.heap.size) (o := 0) _ hlt2).store (b := wr.heap.size) (o := 1) _ hlt2).mono (Nat.le_trans szr sB.1.size), ((nwC.store (b := wr.heap.size) (o := 0) _ hlt2).store (b := wr.heap.size) (o := 1) _ hlt2).mono (Nat.le_trans szr sB.1.size), lC1, lC2⟩
      case rest =>
        obtain ⟨SB, a1, n1, k1, a2, n2, k2, ok, ss', ws', rfl, rfl, s0, s1, sx, ns', nw', l1', l2'⟩ := hcut
        have DC := hD.step hN sx.1 sx.2
        clear hD c0 c1
        cases ok
        · go_wp2
          exact ⟨⟨j - 1, _, _, ss, ws, by go_num, by omega, DC, HW.out, fun i hi => (HO.out i hi).mono (by omega)⟩, by simp [intOf]; omega⟩
        · have DP := DC.put h.br hN ns' nw' (l1' rfl).1.1 (Nat.le_trans l2' (by omega)) ⟨_, _, _, rfl, (l1' rfl).1.2.1⟩ (l1' rfl).1.2.2
          have c0 := DC.bx.c0
          have c1 := DC.bx.c1
          have f0 := DC.bx.f (o := 0)
          have f1 := DC.bx.f (o := 1)
          have HL := (l1' rfl).2 _ HO.out
          have HL : Hid (OkL (4 - j + 1) ss') := HL
          clear l1'
          clear DC
          go_wp2
          exact ⟨⟨j - 1, _, _, ss', ws', by go_num, by omega, DP, l2', fun i hi => (HL.out i hi).mono (by omega)⟩, by simp [intOf]; omega⟩
    · have hlt' : decide ((0 : Int) < (j : Int)) = false := by simp; omega
      have BL := hD.dw.below 5 (by omega) (by omega)
      go_wp2_with fail
      refine BL.mono ?_
      rintro x w4 ⟨⟨z, rfl, z0', z1'⟩, g4, d4⟩
      clear BL
      have D4 := hD.step hN g4 d4
      obtain ⟨pn, rfl⟩ := Int.eq_ofNat_of_zero_le z0'
      clear hD c0 c1 g4 d4
      go_wp2
      go_loopw [7] (fun nv wr => ∃ (j : Nat) (u1 u2 : Value) (ss : List ByteArray) (ws : List Disk.Wr), nv = .int .i64 j ∧ j ≤ 5 ∧ Dd w N cv cs w1.heap.size wr u1 u2 ss ws ∧ ws.length ≤ 201 ∧ OkL 4 ss) (fun nv _ => (intOf nv).toNat)
      case atStart => exact ⟨pn, _, _, _, _, rfl, by omega, D4, HW.out, fun i hi => (HO.out i hi).mono (by omega)⟩
      case round =>
        clear D4 hlt hlt' szr
        obtain ⟨j, p1, p2, ss, ws, rfl, hj, hD, hw2, hok0⟩ := hrel
        have HO : Hid (OkL 4 ss) := hok0
        clear hok0
        obtain ⟨q1, r1, e1, _⟩ := id hD.ns.1
        obtain ⟨q2, r2, e2, _⟩ := id hD.nw.1
        subst e1
        subst e2
        have c0 := hD.bx.c0
        have c1 := hD.bx.c1
        have szr := hD.gr.size
        by_cases hlt : 0 < j
        · have hlt' : decide ((0 : Int) < (j : Int)) = true := by simp; omega
          go_wp2_with fail
          go_cut [8, 9] (fun pv iv wc => ∃ (SB : Nat) (a1 : Option Addr) (n1 k1 : Nat) (a2 : Option Addr) (n2 k2 : Nat) (ok : Bool) (ss' : List ByteArray) (ws' : List Disk.Wr), pv = .pointer (some ⟨SB, 0, none⟩) ∧ iv = .bool ok ∧ wc.cell? ⟨SB, 0, none⟩ = some (.slice a1 n1 k1) ∧ wc.cell? ⟨SB, 1, none⟩ = some (.slice a2 n2 k2) ∧ Sx wr N cv cs wc ∧ Disk.NS w.heap.size wc (.slice a1 n1 k1) ss' ∧ Disk.NO w.heap.size wc (.slice a2 n2 k2) ws' ∧ (ok = true → (ss'.length = 64 ∧ n1 ≤ k1 ∧ ∀ s ∈ ss', s.size ≤ 257) ∧ ss' = ss) ∧ ws'.length ≤ 201)
          case first =>
            go_region_held3 (fun w' => w'.cell? ⟨w1.heap.size, 0, none⟩ = some (.slice q1 ss.length r1) ∧ w'.cell? ⟨w1.heap.size, 1, none⟩ = some (.slice q2 ws.length r2) ∧ Sx wr N cv cs w')
              (first | assumption | (exact mkS hD hN (gdrew (World.grownBy.refl _ _)) hD.dw.drew) | (exact mkSa hD hN (by assumption) _) | (exact mkS hD hN sA.1 sA.2) | (exact mkS hD hN sB.1 sB.2) | (exact mkS hD hN sC.1 sC.2) | (exact mkSa hD hN (mkS hD hN sC.1 sC.2) _) | (exact mkSs hD hN (mkS hD hN sC.1 sC.2) (Nat.le_refl _) _ _) | (exact mkSs hD hN (mkS hD hN sC.1 sC.2) sB.1.size _ _) | (exact mkSs hD hN (mkS hD hN sC.1 sC.2) sA.1.size _ _))
              (first
                | (go_at_call 33; refine (belowK hD (by assumption) 64 (by omega) (by omega)).mono ?_; rintro x w5 ⟨sec, rfl, hsec, sA, gA⟩; (first | (refine zBd gA (by omega) ?_; intro za) | (refine zB gA (by omega) ?_; intro za) | skip))
                | (go_at_call 71; refine (textK hD hN (by assumption)).mono ?_; rintro x w6 ⟨t, rfl, ht, sB, gB⟩; (first | (refine zBg gB za (by omega) ?_; intro zb) | (refine zBd gB (by have := sA.1.size; omega) ?_; intro zb) | (refine zB gB (by have := sA.1.size; omega) ?_; intro zb) | skip))
                | (go_at_call 70; refine (putK hD hN (by assumption) _ _).mono ?_; rintro x w7 ⟨a1, n1, k1, a2, n2, k2, ok, ss', ws', rfl, sC, nsC, nwC, lC1, lC2, bC⟩; (first | (refine zC bC zb ?_; intro y0 y1 yf0 yf1 zc) | (refine zC bC (Bx.new w6 (.slice none 0 0) (.slice none 0 0)) ?_; intro y0 y1 yf0 yf1 zc) | skip)))
            all_goals go_wp2_with fail
            all_goals go_meet
            · exact ⟨w7.heap.size, a1, n1, k1, a2, n2, k2, ok, ss', ws', rfl, rfl, (Bx.new w7 _ _).c0, (Bx.new w7 _ _).c1, (mkSa hD hN (mkS hD hN sC.1 sC.2) _).2.2, (nsC.mono (Nat.le_trans szr sB.1.size)).later (Disk.bel_one _ _), (nwC.mono (Nat.le_trans szr sB.1.size)).later (Disk.bel_one _ _), lC1, lC2⟩
            · have hlt2 : w6.heap.size < (w6.alloc (.cells #[.slice none 0 0, .slice none 0 0] 27)).heap.size := by simp
              exact ⟨w6.heap.size, a1, n1, k1, a2, n2, k2, ok, ss', ws', rfl, rfl, (zc.set _ _).c0, (zc.set _ _).c1, (mkSs hD hN (mkS hD hN sC.1 sC.2) sB.1.size _ _).2.2, ((nsC.store (b := w6.heap.size) (o := 0) _ hlt2).store (b := w6.heap.size) (o := 1) _ hlt2).mono (Nat.le_trans szr (Nat.le_trans sB.1.size (Nat.le_of_lt hlt2))), ((nwC.store (b := w6.heap.size) (o := 0) _ hlt2).store (b := w6.heap.size) (o := 1) _ hlt2).mono (Nat.le_trans szr (Nat.le_trans sB.1.size (Nat.le_of_lt hlt2))), lC1, lC2⟩
            · have hlt2 : w5.heap.size < w6.heap.size := zb.lt
              exact ⟨w5.heap.size, a1, n1, k1, a2, n2, k2, ok, ss', ws', rfl, rfl, (zc.set _ _).c0, (zc.set _ _).c1, (mkSs hD hN (mkS hD hN sC.1 sC.2) sA.1.size _ _).2.2, ((nsC.store (b := w5.heap.size) (o := 0) _ hlt2).store (b := w5.heap.size) (o := 1) _ hlt2).mono (Nat.le_trans szr sB.1.size), ((nwC.store (b := w5.heap.size) (o := 0) _ hlt2).store (b := w5.heap.size) (o := 1) _ hlt2).mono (Nat.le_trans szr sB.1.size), lC1, lC2⟩
            · have hlt2 : wr.heap.size < w6.heap.size := zb.lt
              exact ⟨wr.heap.size, a1, n1, k1, a2, n2, k2, ok, ss', ws', rfl, rfl, (zc.set _ _).c0, (zc.set _ _).c1, (mkSs hD hN (mkS hD hN sC.1 sC.2) (Nat.le_refl _) _ _).2.2, ((nsC.store (b := wr.heap.size) (o := 0) _ hlt2).store (b := wr.heap.size) (o := 1) _ hlt2).mono (Nat.le_trans szr sB.1.size), ((nwC.store (b := wr.heap.size) (o := 0) _ hlt2).store (b := wr.heap.size) (o := 1) _ hlt2).mono (Nat.le_trans szr sB.1.size), lC1, lC2⟩
          case rest =>
            obtain ⟨SB, a1, n1, k1, a2, n2, k2, ok, ss', ws', rfl, rfl, s0, s1, sx, ns', nw', l1', l2'⟩ := hcut
            have DC := hD.step hN sx.1 sx.2
            clear hD c0 c1
            cases ok
            · go_wp2
              exact ⟨⟨j - 1, _, _, ss, ws, by go_num, by omega, DC, hw2, HO.out⟩, by simp [intOf]; omega⟩
            · have DP := DC.put h.br hN ns' nw' (l1' rfl).1.1 (Nat.le_trans l2' (by omega)) ⟨_, _, _, rfl, (l1' rfl).1.2.1⟩ (l1' rfl).1.2.2
              have c0 := DC.bx.c0
              have c1 := DC.bx.c1
              have f0 := DC.bx.f (o := 0)
              have f1 := DC.bx.f (o := 1)
              have HE : Hid (ss' = ss) := (l1' rfl).2
              clear l1'
              clear DC
              go_wp2
              exact ⟨⟨j - 1, _, _, ss', ws', by go_num, by omega, DP, l2', by rw [HE.out]; exact HO.out⟩, by simp [intOf]; omega⟩
        · have hlt' : decide ((0 : Int) < (j : Int)) = false := by simp; omega
          have ON := hD.dw.once 8 (by omega) (by omega)
          go_wp2_with fail
          refine ON.mono ?_
          rintro x wa ⟨⟨b8, rfl⟩, ga, da⟩
          clear ON
          have hE := hD.step hN ga da
          have OI : Hid (∀ i, i < 2 → Inv 0 (textAt ss i).data.toList) := fun i hi => (HO.out i hi).inv (by omega)
          clear hD c0 c1 ga da hlt hlt' hj szr
          obtain ⟨rb, rc, e1, rlo, rlt, rcell, rfrz⟩ := hE.ns.form (by rw [hE.l1]; omega)
          rw [e1] at hE
          clear e1
          have L64 : Hid (ss.length = 64) := hE.l1
          have i64 : (ss.length : Int) = 64 := by have := L64.out; omega
          rw [L64.out] at hE
          have c0 := hE.bx.c0
          have c1 := hE.bx.c1
          have sza := hE.gr.size
          cases b8
          · have hF := hE
            clear hE c0 c1
            have ON3 := hF.dw.once 30 (by omega) (by omega)
            go_wp2_with fail
            refine ON3.mono ?_
            rintro x wb ⟨⟨b30, rfl⟩, gb, db⟩
            clear ON3
            have hG := hF.step hN gb db
            have m0 := hG.bx.c0
            have m1 := hG.bx.c1
            have o0 := hG.rs.c0
            have o1 := hG.rs.c1
            have of0 := hG.rs.f (o := 0)
            have of1 := hG.rs.f (o := 1)
            have RT := hG.ret h.br hN
            have CP : Hid (Disk.CapS _) := hG.cp
            have SZ : Hid (∀ s : ByteArray, s ∈ _ → s.size ≤ 257) := hG.sz
            cases b30
            · have p0 := RT.2.2.2.2.c0
              have p1 := RT.2.2.2.2.c1
              have LL := hG.l1
              go_wp2
              exact bodyPost_ret (v := .agg #[.slice (some ⟨rb, 0, none⟩) 64 rc, .slice q2 ws.length r2]) (by simp [results, Tryz.results48, go_sem, p0, p1]) rfl ⟨⟨_, _, ss, ws, rfl, RT.1.2.1, RT.2.1.nw.2.1, by omega, by omega, fun _ => ⟨RT.1, RT.2.1, OI.out⟩, low_ns RT.1, low_nw RT.2.1.nw, CP.out, SZ.out⟩, RT.2.2.1, RT.2.2.2.1⟩
            · have BL := hG.dw.below 3 (by omega) (by omega)
              clear RT o0 o1 of0 of1 m0 m1
              go_wp2_with fail
              refine BL.mono ?_
              rintro x wc ⟨⟨y, rfl, y0, y1⟩, gc, dc⟩
              clear BL
              have hH := hG.step hN gc dc
              have m0 := hH.bx.c0
              have m1 := hH.bx.c1
              have mf0 := hH.bx.f (o := 0)
              have mf1 := hH.bx.f (o := 1)
              have o0 := hH.rs.c0
              have o1 := hH.rs.c1
              have of0 := hH.rs.f (o := 0)
              have of1 := hH.rs.f (o := 1)
              have hrc := hH.cp.le
              have hlo := hH.lo
              clear hG hF gb db gc dc
              have hy : y = 0 ∨ y = 1 ∨ y = 2 := by omega
              rcases hy with rfl | rfl | rfl
              · have LU := low_nw hH.nw
                have LS := hH.less h.br hN (.slice (some ⟨rb, 1, none⟩) 63 (rc - 1)) rfl
                have CP : Hid (Disk.CapS (.slice (some ⟨rb, 1, none⟩) 63 (rc - 1))) := ⟨_, _, _, rfl, by omega⟩
                have SZ : Hid (∀ s : ByteArray, s ∈ _ → s.size ≤ 257) := (fun s hs => hH.sz s (List.mem_of_mem_drop hs) : ∀ s : ByteArray, s ∈ List.drop 1 _ → s.size ≤ 257)
                have p0 := LS.2.2.2.2.c0
                have p1 := LS.2.2.2.2.c1
                have LL : Hid (((ss).drop 1).length = 63) := (by rw [List.length_drop, hH.l1] : ((ss).drop 1).length = 63)
                go_wp2
                exact bodyPost_ret (v := .agg #[.slice (some ⟨rb, 1, none⟩) 63 (rc - 1), .slice q2 ws.length r2]) (by simp [results, Tryz.results48, go_sem, p0, p1]) rfl ⟨⟨_, _, (ss).drop 1, ws, rfl, LS.1, LS.2.1, by have := LL.out; omega, by omega, fun e => by have := LL.out; omega, low_at rlo, LU, CP.out, SZ.out⟩, LS.2.2.1, LS.2.2.2.1⟩
              · clear m0 m1 mf0 mf1 o0 o1 of0 of1 hrc
                go_wp2_with fail
                refine late_region h.br hN (by omega) hH ?_
                intro v64 v65 v66 v67 v68 v69 v70 v71 v72 v73 v74 v75 v76 v77 v78 wd ao ln cap ws' hJ hn
                have RT := hJ.ret h.br hN
                have CP : Hid (Disk.CapS _) := hJ.cp
                have SZ : Hid (∀ s : ByteArray, s ∈ _ → s.size ≤ 257) := hJ.sz
                have p0 := RT.2.2.2.2.c0
                have p1 := RT.2.2.2.2.c1
                have v0 := hJ.bx.c0
                have v1 := hJ.bx.c1
                have o0 := hJ.rs.c0
                have o1 := hJ.rs.c1
                have of0 := hJ.rs.f (o := 0)
                have of1 := hJ.rs.f (o := 1)
                have LL := hJ.l1
                have LW := hJ.l2
                clear hJ hH hn
                go_wp2
                exact bodyPost_ret (v := .agg #[.slice (some ⟨rb, 0, none⟩) 64 rc, .slice ao ln cap]) (by simp [results, Tryz.results48, go_sem, p0, p1]) rfl ⟨⟨_, _, ss, ws', rfl, RT.1.2.1, RT.2.1.nw.2.1, by omega, LW, fun _ => ⟨RT.1, RT.2.1, OI.out⟩, low_ns RT.1, low_nw RT.2.1.nw, CP.out, SZ.out⟩, RT.2.2.1, RT.2.2.2.1⟩
              · have BL2 := belowN hH 2 (by omega) (by omega)
                have hm0 : ∀ w, (Instr.makeSlice 25 (.int .i64 200) (.int .i64 200)).run Tryz.prog w = .ok (.slice (some ⟨w.heap.size, 0, none⟩) 200 200) (w.alloc (.cells (madeCells #[.int .i64 0, .string ⟨#[]⟩] 400) 48)) := Disk.make28 200 (by omega)
                have hm1 : ∀ w, (Instr.makeSlice 25 (.int .i64 201) (.int .i64 201)).run Tryz.prog w = .ok (.slice (some ⟨w.heap.size, 0, none⟩) 201 201) (w.alloc (.cells (madeCells #[.int .i64 0, .string ⟨#[]⟩] 402) 48)) := Disk.make28 201 (by omega)
                clear m0 m1 mf0 mf1 o0 o1 of0 of1
                go_wp2_with fail
                refine BL2.mono ?_
                rintro x wd ⟨zq, rfl, hzq, gd, dd⟩
                have hI := hH.step hN gd dd
                clear BL2 hH gd dd
                rcases (by omega : zq = 0 ∨ zq = 1) with rfl | rfl
                · rw [show ((0 : Nat) : Int) = 0 from rfl]
                  have hA := hI.al hN (.cells (madeCells #[.int .i64 0, .string ⟨#[]⟩] 400) 48)
                  have hNo : Disk.NO w.heap.size (wd.alloc (.cells (madeCells #[.int .i64 0, .string ⟨#[]⟩] 400) 48)) (.slice (some ⟨wd.heap.size, 0, none⟩) 200 200) (List.replicate 200 blankW) := made_no wd w.heap.size 200 hI.gr.size (by omega)
                  have hJ := hA.late h.br hN hNo (by rw [List.length_replicate]; omega)
                  have RT := hJ.ret h.br hN
                  have CP : Hid (Disk.CapS _) := hJ.cp
                  have SZ : Hid (∀ s : ByteArray, s ∈ _ → s.size ≤ 257) := hJ.sz
                  have p0 := RT.2.2.2.2.c0
                  have p1 := RT.2.2.2.2.c1
                  have m0 := hA.bx.c0
                  have m1 := hA.bx.c1
                  have mf1 := hA.bx.f (o := 1)
                  have o0 := hJ.rs.c0
                  have o1 := hJ.rs.c1
                  have of0 := hJ.rs.f (o := 0)
                  have of1 := hJ.rs.f (o := 1)
                  have v0 := hJ.bx.c0
                  have v1 := hJ.bx.c1
                  have LL := hJ.l1
                  clear hA hNo hI hJ
                  go_wp2
                  exact bodyPost_ret (v := .agg #[.slice (some ⟨rb, 0, none⟩) 64 rc, .slice (some ⟨wd.heap.size, 0, none⟩) 200 200]) (by simp [results, Tryz.results48, go_sem, p0, p1]) rfl ⟨⟨_, _, ss, List.replicate 200 blankW, rfl, RT.1.2.1, RT.2.1.nw.2.1, by omega, by rw [List.length_replicate]; omega, fun _ => ⟨RT.1, RT.2.1, OI.out⟩, low_ns RT.1, low_nw RT.2.1.nw, CP.out, SZ.out⟩, RT.2.2.1, RT.2.2.2.1⟩
                · rw [show ((1 : Nat) : Int) = 1 from rfl]
                  have hA := hI.al hN (.cells (madeCells #[.int .i64 0, .string ⟨#[]⟩] 402) 48)
                  have hNo : Disk.NO w.heap.size (wd.alloc (.cells (madeCells #[.int .i64 0, .string ⟨#[]⟩] 402) 48)) (.slice (some ⟨wd.heap.size, 0, none⟩) 201 201) (List.replicate 201 blankW) := made_no wd w.heap.size 201 hI.gr.size (by omega)
                  have hJ := hA.late h.br hN hNo (by rw [List.length_replicate]; omega)
                  have RT := hJ.ret h.br hN
                  have CP : Hid (Disk.CapS _) := hJ.cp
                  have SZ : Hid (∀ s : ByteArray, s ∈ _ → s.size ≤ 257) := hJ.sz
                  have p0 := RT.2.2.2.2.c0
                  have p1 := RT.2.2.2.2.c1
                  have m0 := hA.bx.c0
                  have m1 := hA.bx.c1
                  have mf1 := hA.bx.f (o := 1)
                  have o0 := hJ.rs.c0
                  have o1 := hJ.rs.c1
                  have of0 := hJ.rs.f (o := 0)
                  have of1 := hJ.rs.f (o := 1)
                  have v0 := hJ.bx.c0
                  have v1 := hJ.bx.c1
                  have LL := hJ.l1
                  clear hA hNo hI hJ
                  go_wp2
                  exact bodyPost_ret (v := .agg #[.slice (some ⟨rb, 0, none⟩) 64 rc, .slice (some ⟨wd.heap.size, 0, none⟩) 201 201]) (by simp [results, Tryz.results48, go_sem, p0, p1]) rfl ⟨⟨_, _, ss, List.replicate 201 blankW, rfl, RT.1.2.1, RT.2.1.nw.2.1, by omega, by rw [List.length_replicate]; omega, fun _ => ⟨RT.1, RT.2.1, OI.out⟩, low_ns RT.1, low_nw RT.2.1.nw, CP.out, SZ.out⟩, RT.2.2.1, RT.2.2.2.1⟩
          · have hEd := hE.step hN (gdrew (World.grownBy.refl _ _)) hE.dw.drew
            go_wp2_with fail
            go_region_held3 (fun w' => w'.cell? ⟨w1.heap.size, 0, none⟩ = some (.slice (some ⟨rb, 0, none⟩) 64 rc))
              (first | assumption | (exact c0) | (exact hE5.bx.c0) | (exact hE6.bx.c0) | (exact (hE6.store h.br hN HKL.out t HT.out).bx.c0))
              (first
                | (go_at_call 33; refine (belowN hEd 64 (by omega) (by omega)).mono ?_; rintro x w5 ⟨zn, rfl, hz, g5, d5⟩; have hE5 := hEd.step hN g5 d5)
                | (go_at_call 71; refine (Dw.textI d5 (by have := hE5.gr.size; omega)).mono ?_; rintro x w6 ⟨⟨t, rfl, ht, hiv⟩, g6, d6⟩; have HT : Hid (t.size ≤ 257) := ht; have HI : Hid (Inv 0 t.data.toList) := hiv; clear ht hiv; have hE6 := hE5.step hN g6 d6; have hz3 : zn < 64 := (by omega); have hz4 : (zn : Int) < 64 := (by omega); have hz5 : decide ((zn : Int) < 64) = true := (by simp; omega); have HKL : Hid (zn < ss.length) := (by rw [L64.out]; omega : zn < ss.length); refine hE6.sector hz3 ?_; intro os6 y6 f6))
            have hF := hE6.store h.br hN HKL.out t HT.out
            have OT : Hid (∀ i, i < 2 → Inv 0 (textAt (ss.set zn t) i).data.toList) := fun i hi => by
              unfold textAt
              by_cases e : zn = i
              · subst e; rw [getD_set_self (by rw [L64.out]; omega)]; exact HI.out
              · rw [getD_set_ne e]; exact OI.out i hi
            clear hE hEd hE5 hE6 c0 c1 y6 f6
            have ON3 := hF.dw.once 30 (by omega) (by omega)
            go_wp2_with fail
            refine ON3.mono ?_
            rintro x wb ⟨⟨b30, rfl⟩, gb, db⟩
            clear ON3
            have hG := hF.step hN gb db
            have m0 := hG.bx.c0
            have m1 := hG.bx.c1
            have o0 := hG.rs.c0
            have o1 := hG.rs.c1
            have of0 := hG.rs.f (o := 0)
            have of1 := hG.rs.f (o := 1)
            have RT := hG.ret h.br hN
            have CP : Hid (Disk.CapS _) := hG.cp
            have SZ : Hid (∀ s : ByteArray, s ∈ _ → s.size ≤ 257) := hG.sz
            cases b30
            · have p0 := RT.2.2.2.2.c0
              have p1 := RT.2.2.2.2.c1
              have LL := hG.l1
              go_wp2
              exact bodyPost_ret (v := .agg #[.slice (some ⟨rb, 0, none⟩) 64 rc, .slice q2 ws.length r2]) (by simp [results, Tryz.results48, go_sem, p0, p1]) rfl ⟨⟨_, _, ss.set zn t, ws, rfl, RT.1.2.1, RT.2.1.nw.2.1, by omega, by omega, fun _ => ⟨RT.1, RT.2.1, OT.out⟩, low_ns RT.1, low_nw RT.2.1.nw, CP.out, SZ.out⟩, RT.2.2.1, RT.2.2.2.1⟩
            · have BL := hG.dw.below 3 (by omega) (by omega)
              clear RT o0 o1 of0 of1 m0 m1
              go_wp2_with fail
              refine BL.mono ?_
              rintro x wc ⟨⟨y, rfl, y0, y1⟩, gc, dc⟩
              clear BL
              have hH := hG.step hN gc dc
              have m0 := hH.bx.c0
              have m1 := hH.bx.c1
              have mf0 := hH.bx.f (o := 0)
              have mf1 := hH.bx.f (o := 1)
              have o0 := hH.rs.c0
              have o1 := hH.rs.c1
              have of0 := hH.rs.f (o := 0)
              have of1 := hH.rs.f (o := 1)
              have hrc := hH.cp.le
              have hlo := hH.lo
              clear hG hF gb db gc dc
              have hy : y = 0 ∨ y = 1 ∨ y = 2 := by omega
              rcases hy with rfl | rfl | rfl
              · have LU := low_nw hH.nw
                have LS := hH.less h.br hN (.slice (some ⟨rb, 1, none⟩) 63 (rc - 1)) rfl
                have CP : Hid (Disk.CapS (.slice (some ⟨rb, 1, none⟩) 63 (rc - 1))) := ⟨_, _, _, rfl, by omega⟩
                have SZ : Hid (∀ s : ByteArray, s ∈ _ → s.size ≤ 257) := (fun s hs => hH.sz s (List.mem_of_mem_drop hs) : ∀ s : ByteArray, s ∈ List.drop 1 _ → s.size ≤ 257)
                have p0 := LS.2.2.2.2.c0
                have p1 := LS.2.2.2.2.c1
                have LL : Hid (((ss.set zn t).drop 1).length = 63) := (by rw [List.length_drop, hH.l1] : ((ss.set zn t).drop 1).length = 63)
                go_wp2
                exact bodyPost_ret (v := .agg #[.slice (some ⟨rb, 1, none⟩) 63 (rc - 1), .slice q2 ws.length r2]) (by simp [results, Tryz.results48, go_sem, p0, p1]) rfl ⟨⟨_, _, (ss.set zn t).drop 1, ws, rfl, LS.1, LS.2.1, by have := LL.out; omega, by omega, fun e => by have := LL.out; omega, low_at rlo, LU, CP.out, SZ.out⟩, LS.2.2.1, LS.2.2.2.1⟩
              · clear m0 m1 mf0 mf1 o0 o1 of0 of1 hrc
                go_wp2_with fail
                refine late_region h.br hN (by omega) hH ?_
                intro v64 v65 v66 v67 v68 v69 v70 v71 v72 v73 v74 v75 v76 v77 v78 wd ao ln cap ws' hJ hn
                have RT := hJ.ret h.br hN
                have CP : Hid (Disk.CapS _) := hJ.cp
                have SZ : Hid (∀ s : ByteArray, s ∈ _ → s.size ≤ 257) := hJ.sz
                have p0 := RT.2.2.2.2.c0
                have p1 := RT.2.2.2.2.c1
                have v0 := hJ.bx.c0
                have v1 := hJ.bx.c1
                have o0 := hJ.rs.c0
                have o1 := hJ.rs.c1
                have of0 := hJ.rs.f (o := 0)
                have of1 := hJ.rs.f (o := 1)
                have LL := hJ.l1
                have LW := hJ.l2
                clear hJ hH hn
                go_wp2
                exact bodyPost_ret (v := .agg #[.slice (some ⟨rb, 0, none⟩) 64 rc, .slice ao ln cap]) (by simp [results, Tryz.results48, go_sem, p0, p1]) rfl ⟨⟨_, _, (ss.set zn t), ws', rfl, RT.1.2.1, RT.2.1.nw.2.1, by omega, LW, fun _ => ⟨RT.1, RT.2.1, OT.out⟩, low_ns RT.1, low_nw RT.2.1.nw, CP.out, SZ.out⟩, RT.2.2.1, RT.2.2.2.1⟩
              · have BL2 := belowN hH 2 (by omega) (by omega)
                have hm0 : ∀ w, (Instr.makeSlice 25 (.int .i64 200) (.int .i64 200)).run Tryz.prog w = .ok (.slice (some ⟨w.heap.size, 0, none⟩) 200 200) (w.alloc (.cells (madeCells #[.int .i64 0, .string ⟨#[]⟩] 400) 48)) := Disk.make28 200 (by omega)
                have hm1 : ∀ w, (Instr.makeSlice 25 (.int .i64 201) (.int .i64 201)).run Tryz.prog w = .ok (.slice (some ⟨w.heap.size, 0, none⟩) 201 201) (w.alloc (.cells (madeCells #[.int .i64 0, .string ⟨#[]⟩] 402) 48)) := Disk.make28 201 (by omega)
                clear m0 m1 mf0 mf1 o0 o1 of0 of1
                go_wp2_with fail
                refine BL2.mono ?_
                rintro x wd ⟨zq, rfl, hzq, gd, dd⟩
                have hI := hH.step hN gd dd
                clear BL2 hH gd dd
                rcases (by omega : zq = 0 ∨ zq = 1) with rfl | rfl
                · rw [show ((0 : Nat) : Int) = 0 from rfl]
                  have hA := hI.al hN (.cells (madeCells #[.int .i64 0, .string ⟨#[]⟩] 400) 48)
                  have hNo : Disk.NO w.heap.size (wd.alloc (.cells (madeCells #[.int .i64 0, .string ⟨#[]⟩] 400) 48)) (.slice (some ⟨wd.heap.size, 0, none⟩) 200 200) (List.replicate 200 blankW) := made_no wd w.heap.size 200 hI.gr.size (by omega)
                  have hJ := hA.late h.br hN hNo (by rw [List.length_replicate]; omega)
                  have RT := hJ.ret h.br hN
                  have CP : Hid (Disk.CapS _) := hJ.cp
                  have SZ : Hid (∀ s : ByteArray, s ∈ _ → s.size ≤ 257) := hJ.sz
                  have p0 := RT.2.2.2.2.c0
                  have p1 := RT.2.2.2.2.c1
                  have m0 := hA.bx.c0
                  have m1 := hA.bx.c1
                  have mf1 := hA.bx.f (o := 1)
                  have o0 := hJ.rs.c0
                  have o1 := hJ.rs.c1
                  have of0 := hJ.rs.f (o := 0)
                  have of1 := hJ.rs.f (o := 1)
                  have v0 := hJ.bx.c0
                  have v1 := hJ.bx.c1
                  have LL := hJ.l1
                  clear hA hNo hI hJ
                  go_wp2
                  exact bodyPost_ret (v := .agg #[.slice (some ⟨rb, 0, none⟩) 64 rc, .slice (some ⟨wd.heap.size, 0, none⟩) 200 200]) (by simp [results, Tryz.results48, go_sem, p0, p1]) rfl ⟨⟨_, _, (ss.set zn t), List.replicate 200 blankW, rfl, RT.1.2.1, RT.2.1.nw.2.1, by omega, by rw [List.length_replicate]; omega, fun _ => ⟨RT.1, RT.2.1, OT.out⟩, low_ns RT.1, low_nw RT.2.1.nw, CP.out, SZ.out⟩, RT.2.2.1, RT.2.2.2.1⟩
                · rw [show ((1 : Nat) : Int) = 1 from rfl]
                  have hA := hI.al hN (.cells (madeCells #[.int .i64 0, .string ⟨#[]⟩] 402) 48)
                  have hNo : Disk.NO w.heap.size (wd.alloc (.cells (madeCells #[.int .i64 0, .string ⟨#[]⟩] 402) 48)) (.slice (some ⟨wd.heap.size, 0, none⟩) 201 201) (List.replicate 201 blankW) := made_no wd w.heap.size 201 hI.gr.size (by omega)
                  have hJ := hA.late h.br hN hNo (by rw [List.length_replicate]; omega)
                  have RT := hJ.ret h.br hN
                  have CP : Hid (Disk.CapS _) := hJ.cp
                  have SZ : Hid (∀ s : ByteArray, s ∈ _ → s.size ≤ 257) := hJ.sz
                  have p0 := RT.2.2.2.2.c0
                  have p1 := RT.2.2.2.2.c1
                  have m0 := hA.bx.c0
                  have m1 := hA.bx.c1
                  have mf1 := hA.bx.f (o := 1)
                  have o0 := hJ.rs.c0
                  have o1 := hJ.rs.c1
                  have of0 := hJ.rs.f (o := 0)
                  have of1 := hJ.rs.f (o := 1)
                  have v0 := hJ.bx.c0
                  have v1 := hJ.bx.c1
                  have LL := hJ.l1
                  clear hA hNo hI hJ
                  go_wp2
                  exact bodyPost_ret (v := .agg #[.slice (some ⟨rb, 0, none⟩) 64 rc, .slice (some ⟨wd.heap.size, 0, none⟩) 201 201]) (by simp [results, Tryz.results48, go_sem, p0, p1]) rfl ⟨⟨_, _, (ss.set zn t), List.replicate 201 blankW, rfl, RT.1.2.1, RT.2.1.nw.2.1, by omega, by rw [List.length_replicate]; omega, fun _ => ⟨RT.1, RT.2.1, OT.out⟩, low_ns RT.1, low_nw RT.2.1.nw, CP.out, SZ.out⟩, RT.2.2.1, RT.2.2.2.1⟩

theorem Dw.disk {N : Nat} {cv : Value} {cs : List UInt8} {w : World} (h : Dw N cv cs w) (hN : N < w.heap.size) :
    Calls Tryz.prog 48 #[.pointer (some ⟨N, 0, none⟩)] w fun x w' => (∃ (u1 u2 : Value) (ss : List ByteArray) (ws : List Disk.Wr), x = .returned (.agg #[u1, u2]) ∧ Disk.SR w' u1 ss ∧ Disk.WR w' u2 ws ∧ ss.length ≤ 64 ∧ ws.length ≤ 300 ∧ (ss.length = 64 → Disk.NS w.heap.size w' u1 ss) ∧ Low w.heap.size u1 ∧ Low w.heap.size u2) ∧ w.grownBy w' (some N) ∧ Dw N cv cs w' :=
  (h.diskC hN).mono fun _ _ ⟨⟨u1, u2, ss, ws, e, a, b, c, d, f, g, i, _, _⟩, k⟩ => ⟨⟨u1, u2, ss, ws, e, a, b, c, d, fun z => (f z).1, g, i⟩, k⟩

end Go.Proofs.YtjclpbaiiklhcaaGreatDoor
