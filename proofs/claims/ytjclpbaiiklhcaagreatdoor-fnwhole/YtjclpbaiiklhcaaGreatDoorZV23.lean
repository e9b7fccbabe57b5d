import Derived.Test.YtjclpbaiiklhcaaGreatDoorZV22
import Derived.Test.YtjclpbaiiklhcaaGreatDoorZV15
/- Commit of the program. -/
namespace Go.Proofs.YtjclpbaiiklhcaaGreatDoor
open Go.RowKit Disk

/-- The writes of a commit, as a slice. -/
theorem writes_form {w : World} {B : Nat} {v : Value} {W : List Wr} (h : w.ownsRow B 48 2 v W.length (lcells W)) (h1 : 1 ≤ W.length) : ∃ b p c, v = .slice (some ⟨b, 0, none⟩) (p + 1) (p + (c + 1)) ∧ W.length = p + 1 ∧ WR w (.slice (some ⟨b, 0, none⟩) (p + 1) (p + (c + 1))) W ∧ B ≤ b ∧ b < w.heap.size := by
  have hw := (nw_of_owns h).2.1
  have hlt := fun k hk => h.lt k hk
  obtain ⟨_, ⟨rfl, h0⟩ | ⟨g, cap, cur, rfl, hB, hh, hn, _⟩⟩ := h
  · omega
  · have e1 : W.length = (W.length - 1) + 1 := by omega
    have e2 : cap = (W.length - 1) + ((cap - W.length) + 1) := by omega
    have hg := hlt g rfl
    refine ⟨g, W.length - 1, cap - W.length, ?_, e1, ?_, hg⟩
    · rw [← e1, ← e2]
    · rw [← e1, ← e2]; exact hw
theorem Res.cut {R : Nat} {w w' : World} (h : Res R w) (hb : Below w.heap.size w w') : w'.cell? ⟨R, 0, none⟩ = some (.slice none 0 0) ∧ w'.cell? ⟨R, 1, none⟩ = some (.slice none 0 0) ∧ w'.frozen? ⟨R, 0, none⟩ = false ∧ w'.frozen? ⟨R, 1, none⟩ = false := ⟨(h.later hb).1, (h.later hb).2.1, (h.later hb).2.2.1, (h.later hb).2.2.2.1⟩

set_option maxRecDepth 100000 in
set_option maxHeartbeats 3200000 in
theorem implCommit_cap (ao : Option Addr) (cap : Nat) (v2 bv : Value) (ss : List ByteArray) (ws : List Disk.Wr) (bs : List ByteArray) (a0 a1 a2 a3 : Addr) (tg : TypeId) (pg : Value) (w : World)
    (hv1 : Disk.SR w (.slice ao ss.length cap) ss) (hcap : ss.length ≤ cap) (hv2 : Disk.WR w v2 ws) (h1 : ss.length ≤ 10000000000000) (h2 : ws.length ≤ 10000000000000) (hbv : Disk.SR w bv bs) (h3 : bs.length ≤ 10000000000000) (hC : Ctx a0 a1 a2 a3 w) (hG : w.cell? ⟨0, 0, none⟩ = some (.iface tg pg)) :
    Calls Tryz.prog 7 #[.agg #[.slice ao ss.length cap, v2], bv] w fun e w' => ∃ u1 u2, e = .returned (.tuple #[.agg #[u1, u2], .bool (scrOk ss ws bs)]) ∧ ND w.heap.size w' u1 u2 (commitS ss ws bs) [] ∧ Below w.heap.size w w' ∧ CapS u1 := by
  have hb0 := Disk.bel_two w (.cells #[.slice ao ss.length cap, v2] 27) (.cells #[.slice none 0 0, .slice none 0 0] 27)
  have S := commitWrites_any ao cap v2 bv ss ws bs a0 a1 a2 a3 tg pg _ (hv1.later hb0) hcap (hv2.later hb0) h1 h2 (hbv.later hb0) h3 (hC.later hb0) (cell_later hb0 hG)
  have c0 : ((w.alloc (.cells #[.slice ao ss.length cap, v2] 27)).alloc (.cells #[.slice none 0 0, .slice none 0 0] 27)).cell? ⟨w.heap.size, 0, none⟩ = some (.slice ao ss.length cap) := cell_later (Disk.bel_one _ _) (cell_new w _ 27 _ rfl 0 _ rfl)
  have c1 : ((w.alloc (.cells #[.slice ao ss.length cap, v2] 27)).alloc (.cells #[.slice none 0 0, .slice none 0 0] 27)).cell? ⟨w.heap.size, 1, none⟩ = some v2 := cell_later (Disk.bel_one _ _) (cell_new w _ 27 _ rfl 1 _ rfl)
  have R0 : Res (w.heap.size + 1) ((w.alloc (.cells #[.slice ao ss.length cap, v2] 27)).alloc (.cells #[.slice none 0 0, .slice none 0 0] 27)) := ⟨cell_new _ _ 27 _ (by simp) 0 _ rfl, cell_new _ _ 27 _ (by simp) 1 _ rfl, frozen_new _ _ 27 _ (by simp) 0, frozen_new _ _ 27 _ (by simp) 1, by simp⟩
  go_enter_defers Tryz.func7, Tryz.ntmps7
  go_wp2_with fail
  refine S.mono ?_
  generalize (w.alloc (.cells #[.slice ao ss.length cap, v2] 27)).alloc (.cells #[.slice none 0 0, .slice none 0 0] 27) = W0 at *
  rintro x w1 ⟨ho, hb1⟩
  have hbw1 := bel_after hb0 hb1
  have d0 := cell_later hb1 c0
  have d1 := cell_later hb1 c1
  have HR1 : Hid (Res (w.heap.size + 1) w1) := R0.later hb1
  have ltR : w.heap.size + 1 < w1.heap.size := HR1.out.2.2.2.2
  unfold CwOut at ho
  clear S c0 c1 R0
  cases hok : scrOk ss ws bs
  · rw [hok, if_neg (by simp)] at ho
    subst ho
    have HR : Hid (commitS ss ws bs = []) := commitS_no hok
    have HF : Hid (scrOk ss ws bs = false) := hok
    obtain ⟨q0, q1, f0, f1, _⟩ := HR1.out
    have N0 : ND w.heap.size w1 (.slice none 0 0) (.slice none 0 0) (commitS ss ws bs) [] := by rw [HR.out]; exact nd_zero _ _
    clear hok
    go_wp2
    refine leaves_cons (f := 25) (args := #[]) (by simp) (by simp [go_sem]) ?_
    refine (commitCatch tg pg [] _).mono ?_
    rintro e u' w'' ⟨rfl, rfl, rfl⟩
    simp [Leaves, settle, results, Tryz.results7, go_sem, q0, q1]
    exact ⟨_, _, ⟨⟨rfl, rfl⟩, by first | exact HF.out | exact HF.out.symm⟩, N0, hbw1, ⟨_, _, _, rfl, Nat.le_refl _⟩⟩
  · rw [hok, if_pos rfl] at ho
    obtain ⟨v, rfl, ho⟩ := ho
    have HR : Hid (commitS ss ws bs = doneS ss (scrW ss bs)) := commitS_yes hok
    have hlen := (scrW_length ss bs).1
    have hlen2 := (scrW_length ss bs).2
    have hb30 := (scrOk_parts hok).2.1
    obtain ⟨b, p, c, rfl, hl, hwr, hbB, hbz⟩ := writes_form ho hlen
    obtain ⟨k1, k2⟩ := super_okD hok p
    have DS := done_split ss (scrW ss bs) p
    generalize scrW ss bs = W at *
    have SP := fun W' (hb : Below w1.heap.size w1 W') => superPut_any (.slice ao ss.length cap) v2 b ss W p c W' ((hv1.later hbw1).later hb) (hwr.later hb) hl (by omega) h1 k1
    have HH := fun u1 u2 W' h h' => implHold_cap u1 u2 (doneS ss (W.take p)) (W.drop p) W' h h' (by rw [doneS_length]; exact h1) (by rw [List.length_drop]; omega)
    rw [hold_done k2, DS] at HH
    have HT : Hid (scrOk ss ws bs = true) := hok
    clear hok ho DS k1 k2 hl hlen hlen2
    go_wp2_with fail
    refine (SP _ (Below.refl _ _)).mono ?_
    rintro x w2 ⟨u1, u2, rfl, hs2, hw2, hb2⟩
    go_wp2_with fail
    refine (HH _ _ _ hs2 hw2).mono ?_
    rintro x w3 ⟨z1, z2, rfl, hN3, hb3, hcp3⟩
    have HCP : Hid (CapS z1) := hcp3
    clear hcp3
    have hb13 := bel_after hb2 hb3
    have hbw3 := bel_after hbw1 hb13
    obtain ⟨q0, q1, f0, f1⟩ := Res.cut HR1.out hb13
    obtain ⟨za, zn, zc, rfl⟩ := hN3.s1
    obtain ⟨ya, yn, yc, rfl⟩ := hN3.s2
    have hz2 : w.heap.size + 1 < w2.heap.size := Nat.lt_of_lt_of_le ltR hb2.size
    have P1 := (NS.store (b := w.heap.size + 1) (o := 0) (B := w2.heap.size) ⟨hN3.1, hN3.2.2.1, hN3.2.2.2.2.1⟩ (.slice za zn zc) hz2).store (b := w.heap.size + 1) (o := 1) (.slice ya yn yc) hz2
    have P4 := (NW.store (b := w.heap.size + 1) (o := 0) (B := w2.heap.size) ⟨hN3.2.1, hN3.2.2.2.1, hN3.2.2.2.2.2⟩ (.slice za zn zc) hz2).store (b := w.heap.size + 1) (o := 1) (.slice ya yn yc) hz2
    have P2 := (hbw3.setCell (p := ⟨w.heap.size + 1, 0, none⟩) (by simp) (.slice za zn zc)).setCell (p := ⟨w.heap.size + 1, 1, none⟩) (by simp) (.slice ya yn yc)
    have N0 : ND w.heap.size ((w3.setCell ⟨w.heap.size + 1, 0, none⟩ (.slice za zn zc)).setCell ⟨w.heap.size + 1, 1, none⟩ (.slice ya yn yc)) (.slice za zn zc) (.slice ya yn yc) (commitS ss ws bs) [] := by rw [HR.out]; exact ND_of (P1.mono (by omega)) (P4.mono (by omega))
    clear SP HH hN3 P1 P4
    go_wp2
    refine leaves_cons (f := 25) (args := #[]) (by simp) (by simp [go_sem]) ?_
    refine (commitIdle _).mono ?_
    rintro e u' w'' ⟨rfl, rfl, rfl⟩
    simp [Leaves, settle, results, Tryz.results7, go_sem, q0, q1]
    exact ⟨_, _, ⟨⟨rfl, rfl⟩, by first | exact HT.out | exact HT.out.symm⟩, N0, P2, HCP.out⟩

theorem implCommit_any (ao : Option Addr) (cap : Nat) (v2 bv : Value) (ss : List ByteArray) (ws : List Disk.Wr) (bs : List ByteArray) (a0 a1 a2 a3 : Addr) (tg : TypeId) (pg : Value) (w : World)
    (hv1 : Disk.SR w (.slice ao ss.length cap) ss) (hcap : ss.length ≤ cap) (hv2 : Disk.WR w v2 ws) (h1 : ss.length ≤ 10000000000000) (h2 : ws.length ≤ 10000000000000) (hbv : Disk.SR w bv bs) (h3 : bs.length ≤ 10000000000000) (hC : Ctx a0 a1 a2 a3 w) (hG : w.cell? ⟨0, 0, none⟩ = some (.iface tg pg)) :
    Calls Tryz.prog 7 #[.agg #[.slice ao ss.length cap, v2], bv] w fun e w' => ∃ u1 u2, e = .returned (.tuple #[.agg #[u1, u2], .bool (scrOk ss ws bs)]) ∧ ND w.heap.size w' u1 u2 (commitS ss ws bs) [] ∧ Below w.heap.size w w' :=
  (implCommit_cap ao cap v2 bv ss ws bs a0 a1 a2 a3 tg pg w hv1 hcap hv2 h1 h2 hbv h3 hC hG).mono fun _ _ ⟨u1, u2, e, n, b, _⟩ => ⟨u1, u2, e, n, b⟩

end Go.Proofs.YtjclpbaiiklhcaaGreatDoor

/- Pages of the program. -/
namespace Go.Proofs.YtjclpbaiiklhcaaGreatDoor
open Go.RowKit

set_option maxRecDepth 100000 in
set_option maxHeartbeats 1000000 in
theorem implPages_cap (v1 v2 : Value) (ss : List ByteArray) (ws : List Disk.Wr) (a0 a1 a2 a3 : Addr) (w : World) (hv1 : Disk.SR w v1 ss) (hv2 : Disk.WR w v2 ws) (h1 : ss.length ≤ 10000000000000) (h2 : ws.length ≤ 10000000000000) (hcp : ∃ ao cap, v1 = .slice ao ss.length cap ∧ ss.length ≤ cap) (hC : Ctx a0 a1 a2 a3 w) :
    Calls Tryz.prog 14 #[.agg #[v1, v2]] w fun x w' => (∃ v, x = .returned (.tuple #[v, .int .i64 (newestR ss ws).1]) ∧ w'.ownsRow w.heap.size 9 1 v (pagesR ss ws).length (tcells (pagesR ss ws))) ∧ Below w.heap.size w w' := by
  have hb0 := bel_one w (.cells #[v1, v2] 27)
  have hv1' := hv1.later hb0
  have N := newestSuper_cap v1 v2 ss ws a0 a1 a2 a3 _ hv1' (hv2.later hb0) h1 h2 hcp (ss_of hv1') (hC.later hb0)
  rw [pagesR_length]
  unfold pagesR
  generalize newestR ss ws = r at *
  obtain ⟨ne, nl⟩ := r
  simp only at N
  go_enter Tryz.func14, Tryz.ntmps14
  go_wp2_with fail
  refine N.mono ?_
  rintro x w1 ⟨⟨v, bv, rfl, o1, o2⟩, hb1⟩
  clear N
  have hbw := bel_after hb0 hb1
  obtain ⟨so, sc, rfl, _⟩ := own_cell o1
  obtain ⟨bo, bc, rfl, _⟩ := own_cell o2
  have o3 := own_mono (B' := w.heap.size) (own_later o2 (bel_one w1 (.cells #[.int .i64 ne, .slice so nl.length sc, .slice bo nl.length bc] 58))) (by simp)
  have hbw2 := bel_after hbw (bel_one w1 (.cells #[.int .i64 ne, .slice so nl.length sc, .slice bo nl.length bc] 58))
  clear o1 o2 hb1 hb0
  go_wp2
  go_region
  all_goals go_wp2
  all_goals exact bodyPost_ret (v := .tuple #[.slice bo nl.length bc, .int .i64 ne]) (by simp [results, Tryz.results14, go_sem]) rfl ⟨⟨_, rfl, o3⟩, by first | exact hbw2.drew | exact hbw2.drew.drew⟩

theorem implPages_any (v1 v2 : Value) (ss : List ByteArray) (ws : List Disk.Wr) (a0 a1 a2 a3 : Addr) (w : World) (hv1 : Disk.SR w v1 ss) (hv2 : Disk.WR w v2 ws) (h1 : ss.length ≤ 10000000000000) (h2 : ws.length ≤ 10000000000000) (hcp : ∃ ao, v1 = .slice ao ss.length ss.length) (hC : Ctx a0 a1 a2 a3 w) :
    Calls Tryz.prog 14 #[.agg #[v1, v2]] w fun x w' => (∃ v, x = .returned (.tuple #[v, .int .i64 (newestR ss ws).1]) ∧ w'.ownsRow w.heap.size 9 1 v (pagesR ss ws).length (tcells (pagesR ss ws))) ∧ Below w.heap.size w w' :=
  implPages_cap v1 v2 ss ws a0 a1 a2 a3 w hv1 hv2 h1 h2 (hcp.elim fun ao e => ⟨ao, _, e, Nat.le_refl _⟩) hC

end Go.Proofs.YtjclpbaiiklhcaaGreatDoor
