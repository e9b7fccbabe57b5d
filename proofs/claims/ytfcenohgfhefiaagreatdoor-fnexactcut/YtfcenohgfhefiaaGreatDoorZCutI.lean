/- Cut of the program. -/
import Derived.Test.YtfcenohgfhefiaaGreatDoorZCut
namespace Go.Proofs.YtfcenohgfhefiaaGreatDoor
open Go.RowKit Disk

theorem keepRes {W a : World} {D : Nat} {u x y : Value} (c : W.cell? ⟨D, 0, none⟩ = some u) (hb : Below W.heap.size W a) (lt : D < W.heap.size) (_ : D + 1 < W.heap.size) : Below D W ((a.setCell ⟨D + 1, 0, none⟩ x).setCell ⟨D + 1, 1, none⟩ y) ∧ ((a.setCell ⟨D + 1, 0, none⟩ x).setCell ⟨D + 1, 1, none⟩ y).cell? ⟨D, 0, none⟩ = some u := by
  refine ⟨((hb.mono (Nat.le_of_lt lt)).setCell (p := ⟨D + 1, 0, none⟩) (Nat.le_succ _) _).setCell (p := ⟨D + 1, 1, none⟩) (Nat.le_succ _) _, ?_⟩
  rw [World.cell?_setCell_other _ _ _ _ (by simp), World.cell?_setCell_other _ _ _ _ (by simp)]
  exact (hb.cell (p := ⟨D, 0, none⟩) lt).trans c

set_option maxRecDepth 100000 in
set_option maxHeartbeats 3200000 in
theorem implCut_any (ao : Option Addr) (cap : Nat) (v2 bv vl : Value) (ss : List ByteArray) (ws : List Disk.Wr) (bs : List ByteArray) (dn : Int) (ls : List Bool) (tn : Int) (a0 a1 a2 a3 : Addr) (tg : TypeId) (pg : Value) (w : World)
    (hv1 : Disk.SR w (.slice ao ss.length cap) ss) (hcap : ss.length ≤ cap) (hv2 : Disk.WR w v2 ws) (h1 : ss.length ≤ 10000000000000) (h2 : ws.length ≤ 10000000000000) (hbv : Disk.SR w bv bs) (h3 : bs.length ≤ 10000000000000) (hvl : LR w vl ls) (hC : Ctx a0 a1 a2 a3 w) (hG : w.cell? ⟨0, 0, none⟩ = some (.iface tg pg)) :
    Calls Tryz.prog 21 #[.agg #[.slice ao ss.length cap, v2], bv, .int .i64 dn, vl, .int .i64 tn] w fun e w' => ∃ u1 u2, e = .returned (.agg #[u1, u2]) ∧ ND w.heap.size w' u1 u2 (cutS ss ws bs dn ls tn) [] ∧ Below w.heap.size w w' := by
  have hb0 := Disk.bel_two w (.cells #[.slice ao ss.length cap, v2] 27) (.cells #[.slice none 0 0, .slice none 0 0] 27)
  have S := commitWrites_any ao cap v2 bv ss ws bs a0 a1 a2 a3 tg pg _ (hv1.later hb0) hcap (hv2.later hb0) h1 h2 (hbv.later hb0) h3 (hC.later hb0) (cell_later hb0 hG)
  have c0 : ((w.alloc (.cells #[.slice ao ss.length cap, v2] 27)).alloc (.cells #[.slice none 0 0, .slice none 0 0] 27)).cell? ⟨w.heap.size, 0, none⟩ = some (.slice ao ss.length cap) := cell_later (Disk.bel_one _ _) (cell_new w _ 27 _ rfl 0 _ rfl)
  have c1 : ((w.alloc (.cells #[.slice ao ss.length cap, v2] 27)).alloc (.cells #[.slice none 0 0, .slice none 0 0] 27)).cell? ⟨w.heap.size, 1, none⟩ = some v2 := cell_later (Disk.bel_one _ _) (cell_new w _ 27 _ rfl 1 _ rfl)
  have R0 : Res (w.heap.size + 1) ((w.alloc (.cells #[.slice ao ss.length cap, v2] 27)).alloc (.cells #[.slice none 0 0, .slice none 0 0] 27)) := ⟨cell_new _ _ 27 _ (by simp) 0 _ rfl, cell_new _ _ 27 _ (by simp) 1 _ rfl, frozen_new _ _ 27 _ (by simp) 0, frozen_new _ _ 27 _ (by simp) 1, by simp⟩
  have hG0 := cell_later hb0 hG
  have NO2 : ∀ (hno : ¬ (scrOk ss ws bs = true ∧ 0 ≤ dn)), cutS ss ws bs dn ls tn = [] := cutS_no
  by_cases hdn : 0 ≤ dn
  case neg =>
    have HR : Hid (cutS ss ws bs dn ls tn = []) := NO2 (fun h => hdn h.2)
    have hd' : decide (0 ≤ dn) = false := by simp; omega
    clear hdn NO2 S
    go_enter_defers Tryz.func21, Tryz.ntmps21
    go_wp2_with fail
    generalize (w.alloc (.cells #[.slice ao ss.length cap, v2] 27)).alloc (.cells #[.slice none 0 0, .slice none 0 0] 27) = W0 at *
    refine (giveUp_no tg pg _ hG0).mono ?_
    rintro x w1 ⟨rfl, rfl⟩
    obtain ⟨q0, q1, f0, f1, _⟩ := id R0
    have N0 : ND w.heap.size w1 (.slice none 0 0) (.slice none 0 0) (cutS ss ws bs dn ls tn) [] := by rw [HR.out]; exact nd_zero _ _
    go_wp2
    refine leaves_cons (f := 62) (args := #[]) (by simp) (by simp [go_sem]) ?_
    refine (cutCatch tg pg [] _).mono ?_
    rintro e u' w'' ⟨rfl, rfl, rfl⟩
    simp [Leaves, settle, results, Tryz.results21, go_sem, q0, q1]
    exact ⟨_, _, ⟨rfl, rfl⟩, N0, hb0⟩
  have hd' : decide (0 ≤ dn) = true := by simp; omega
  go_enter_defers Tryz.func21, Tryz.ntmps21
  go_wp2_with fail
  generalize (w.alloc (.cells #[.slice ao ss.length cap, v2] 27)).alloc (.cells #[.slice none 0 0, .slice none 0 0] 27) = W0 at *
  refine (giveUp_yes _).mono ?_
  rintro x w0 ⟨rfl, rfl⟩
  go_wp2_with fail
  refine S.mono ?_
  rintro x w1 ⟨ho, hb1⟩
  have hbw1 := bel_after hb0 hb1
  have d0 := cell_later hb1 c0
  have d1 := cell_later hb1 c1
  have HR1 : Hid (Res (w.heap.size + 1) w1) := R0.later hb1
  have ltR : w.heap.size + 1 < w1.heap.size := HR1.out.2.2.2.2
  have ltD : w.heap.size < w1.heap.size := by omega
  unfold CwOut at ho
  clear S c0 c1 R0 hG0
  cases hok : scrOk ss ws bs
  · rw [hok, if_neg (by simp)] at ho
    subst ho
    have HR : Hid (cutS ss ws bs dn ls tn = []) := NO2 (fun h => by rw [hok] at h; cases h.1)
    obtain ⟨q0, q1, f0, f1, _⟩ := HR1.out
    have N0 : ND w.heap.size w1 (.slice none 0 0) (.slice none 0 0) (cutS ss ws bs dn ls tn) [] := by rw [HR.out]; exact nd_zero _ _
    clear hok NO2
    go_wp2
    refine leaves_cons (f := 62) (args := #[]) (by simp) (by simp [go_sem]) ?_
    refine (cutCatch tg pg [] _).mono ?_
    rintro e u' w'' ⟨rfl, rfl, rfl⟩
    simp [Leaves, settle, results, Tryz.results21, go_sem, q0, q1]
    exact ⟨_, _, ⟨rfl, rfl⟩, N0, hbw1⟩
  rw [hok, if_pos rfl] at ho
  obtain ⟨v, rfl, ho⟩ := ho
  have hlen := (scrW_length ss bs).1
  have hlen2 := (scrW_length ss bs).2
  have hb30 := (scrOk_parts hok).2.1
  obtain ⟨k, rfl⟩ := Int.eq_ofNat_of_zero_le hdn
  obtain ⟨b, p, c, rfl, hl, hwr, hbB, hbz⟩ := writes_form ho hlen
  obtain ⟨k1, k2⟩ := super_okD hok p
  have CS : ∀ (hl : k < (scrW ss bs).length), cutS ss ws bs k ls tn = crashS ls tn ss ((scrW ss bs).take k) := fun hl => cutS_some hok k rfl hl
  have CA := fun p hp hd => cutS_all (dn := (k : Int)) (ls := ls) (tn := tn) hok p hp hd
  generalize scrW ss bs = W at *
  have HL : Hid (W.length = p + 1) := hl
  have hp30 : p ≤ 30 := by omega
  clear hok ho hl hlen hlen2 NO2
  by_cases hk : (p : Int) + 1 ≤ (k : Int)
  · have HR : Hid (cutS ss ws bs k ls tn = crashS ls tn (doneS ss (W.take p)) (W.drop p)) := CA p HL.out (by omega)
    have SP := superPut_any (.slice ao ss.length cap) v2 b ss W p c w1 (hv1.later hbw1) hwr HL.out (by omega) h1 k1
    have HH := fun u1 u2 W' h h' hl' => implCrash_any u1 u2 vl (doneS ss (W.take p)) (W.drop p) ls tn W' h h' hl' (by rw [doneS_length]; exact h1) (by rw [List.length_drop, HL.out]; omega)
    clear CS CA k1 k2
    go_wp2_with fail
    refine SP.mono ?_
    rintro x w2 ⟨u1, u2, rfl, hs2, hw2, hb2⟩
    have hbw2 := bel_after hbw1 hb2
    go_wp2_with fail
    refine (HH _ _ _ hs2 hw2 (hvl.later hbw2)).mono ?_
    rintro x w3 ⟨z1, z2, rfl, hN3, hb3⟩
    have hb13 := bel_after hb2 hb3
    have hbw3 := bel_after hbw1 hb13
    obtain ⟨q0, q1, f0, f1⟩ := Res.cut HR1.out hb13
    obtain ⟨za, zn, zc, rfl⟩ := hN3.s1
    obtain ⟨ya, yn, yc, rfl⟩ := hN3.s2
    have hz2 : w.heap.size + 1 < w2.heap.size := Nat.lt_of_lt_of_le ltR hb2.size
    have P1 := (NS.store (b := w.heap.size + 1) (o := 0) (B := w2.heap.size) ⟨hN3.1, hN3.2.2.1, hN3.2.2.2.2.1⟩ (.slice za zn zc) hz2).store (b := w.heap.size + 1) (o := 1) (.slice ya yn yc) hz2
    have P4 := (NW.store (b := w.heap.size + 1) (o := 0) (B := w2.heap.size) ⟨hN3.2.1, hN3.2.2.2.1, hN3.2.2.2.2.2⟩ (.slice za zn zc) hz2).store (b := w.heap.size + 1) (o := 1) (.slice ya yn yc) hz2
    have P2 := (hbw3.setCell (p := ⟨w.heap.size + 1, 0, none⟩) (by simp) (.slice za zn zc)).setCell (p := ⟨w.heap.size + 1, 1, none⟩) (by simp) (.slice ya yn yc)
    have N0 : ND w.heap.size ((w3.setCell ⟨w.heap.size + 1, 0, none⟩ (.slice za zn zc)).setCell ⟨w.heap.size + 1, 1, none⟩ (.slice ya yn yc)) (.slice za zn zc) (.slice ya yn yc) (cutS ss ws bs k ls tn) [] := by rw [HR.out]; exact ND_of (P1.mono (by omega)) (P4.mono (by omega))
    clear SP HH hN3 P1 P4
    go_wp2
    refine leaves_cons (f := 62) (args := #[]) (by simp) (by simp [go_sem]) ?_
    refine (cutIdle _).mono ?_
    rintro e u' w'' ⟨rfl, rfl, rfl⟩
    simp [Leaves, settle, results, Tryz.results21, go_sem, q0, q1]
    exact ⟨_, _, ⟨rfl, rfl⟩, N0, P2⟩
  · have HR : Hid (cutS ss ws bs k ls tn = crashS ls tn ss (W.take k)) := CS (by rw [HL.out]; omega)
    have hkc : (k : Int) ≤ (p : Int) + ((c : Int) + 1) := by omega
    have CR := fun W' (hb : Below w1.heap.size w1 W') => implCrash_any (.slice ao ss.length cap) (.slice (some ⟨b, 0, none⟩) k (p + (c + 1))) vl ss (W.take k) ls tn W' ((hv1.later hbw1).later hb) (WR_take (p := k) (hwr.later hb) (by rw [HL.out]; omega)) ((hvl.later hbw1).later hb) h1 (by rw [List.length_take, HL.out]; omega)
    obtain ⟨r0, r1, rf0, rf1, _⟩ := HR1.out
    clear CS CA k1 k2
    go_wp2_with fail
    go_region_held3 (fun w' => Below w.heap.size w1 w' ∧ w'.cell? ⟨w.heap.size, 0, none⟩ = some (.slice ao ss.length cap))
      (first | assumption | (exact ⟨(Below.refl _ _).drew, d0⟩) | (exact ⟨(hb3').mono (Nat.le_of_lt ltD), (hb3'.cell (p := ⟨w.heap.size, 0, none⟩) ltD).trans d0⟩) | (exact keepRes d0 hb3' ltD ltR))
      (first
        | (go_at_call 64; refine (CR _ ?_).mono ?_; (focus (exact (Below.refl _ _).drew)); rintro x w3 ⟨z1, z2, rfl, hN3, hb3⟩; have hb3' : Below w1.heap.size w1 w3 := bel_after (Below.refl _ _).drew hb3; obtain ⟨q0, q1, f0, f1⟩ := Res.cut HR1.out hb3'; obtain ⟨za, zn, zc, rfl⟩ := hN3.s1; obtain ⟨ya, yn, yc, rfl⟩ := hN3.s2))
    have hz2 : w.heap.size + 1 < w1.heap.size := ltR
    have P1 := (NS.store (b := w.heap.size + 1) (o := 0) (B := w1.heap.size) ⟨hN3.1, hN3.2.2.1, hN3.2.2.2.2.1⟩ (.slice za zn zc) hz2).store (b := w.heap.size + 1) (o := 1) (.slice ya yn yc) hz2
    have P4 := (NW.store (b := w.heap.size + 1) (o := 0) (B := w1.heap.size) ⟨hN3.2.1, hN3.2.2.2.1, hN3.2.2.2.2.2⟩ (.slice za zn zc) hz2).store (b := w.heap.size + 1) (o := 1) (.slice ya yn yc) hz2
    have P2 := ((bel_after hbw1 hb3').setCell (p := ⟨w.heap.size + 1, 0, none⟩) (by simp) (.slice za zn zc)).setCell (p := ⟨w.heap.size + 1, 1, none⟩) (by simp) (.slice ya yn yc)
    have N0 : ND w.heap.size ((w3.setCell ⟨w.heap.size + 1, 0, none⟩ (.slice za zn zc)).setCell ⟨w.heap.size + 1, 1, none⟩ (.slice ya yn yc)) (.slice za zn zc) (.slice ya yn yc) (cutS ss ws bs k ls tn) [] := by rw [HR.out]; exact ND_of (P1.mono (by omega)) (P4.mono (by omega))
    clear hN3 P1 P4
    go_wp2
    refine leaves_cons (f := 62) (args := #[]) (by simp) (by simp [go_sem]) ?_
    refine (cutIdle _).mono ?_
    rintro e u' w'' ⟨rfl, rfl, rfl⟩
    simp [Leaves, settle, results, Tryz.results21, go_sem, q0, q1]
    exact ⟨_, _, ⟨rfl, rfl⟩, N0, P2⟩

end Go.Proofs.YtfcenohgfhefiaaGreatDoor
