/- Commit of the program and of the model. -/
import Derived.Test.YtddocjmjianajaaZScrW
import Derived.Test.YtddocjmjianajaaZScript
import Derived.Test.YtddocjmjianajaaZDImplHold
namespace Go.Proofs.Ytddocjmjianajaa
open Go.RowKit Disk

set_option maxRecDepth 100000 in
set_option maxHeartbeats 3200000 in
theorem specCommit_no (v1 v2 bv : Value) (ss : List ByteArray) (ws : List Disk.Wr) (bs : List ByteArray) (w : World)
    (hv1 : Disk.SR w v1 ss) (hv2 : Disk.WR w v2 ws) (h1 : ss.length ≤ 10000000000000) (h2 : ws.length ≤ 10000000000000) (hbv : Disk.SR w bv bs) (h3 : bs.length ≤ 10000000000000) :
    Calls Try.prog 35 #[.agg #[v1, v2], bv] w fun e w' => ∃ u1 u2, e = .returned (.tuple #[.agg #[u1, u2], .bool (scrOk ss ws bs)]) ∧ ND w.heap.size w' u1 u2 (commitS ss ws bs) [] ∧ NO w.heap.size w' u2 [] ∧ Below w.heap.size w w' ∧ CapS u1 := by
  have hb0 := bel_two w (.cells #[v1, v2] 27) (.cells #[.slice none 0 0, .slice none 0 0] 27)
  have S := l3Script_any v1 v2 bv ss ws bs _ (hv1.later hb0) (hv2.later hb0) h1 h2 (hbv.later hb0) h3
  go_enter Try.func35, Try.ntmps35
  go_wp2_with (fail)
  refine S.mono ?_
  rintro x w1 ⟨⟨wv, rfl, ho⟩, hb1⟩
  have hbw1 : Below w.heap.size w w1 := hb0.trans (hb1.mono (by simp; omega))
  have r1 : Res (w.heap.size + 1) w1 := Res.later ⟨cell_new _ _ 27 _ (by simp) 0 _ rfl, cell_new _ _ 27 _ (by simp) 1 _ rfl, frozen_new _ _ 27 _ (by simp) 0, frozen_new _ _ 27 _ (by simp) 1, by simp⟩ hb1
  have c0 : w1.cell? ⟨w.heap.size, 0, none⟩ = some v1 := cell_later hb1 (cell_later (Disk.bel_one _ _) (cell_new w #[v1, v2] 27 _ rfl 0 _ rfl))
  have c1 : w1.cell? ⟨w.heap.size, 1, none⟩ = some v2 := cell_later hb1 (cell_later (Disk.bel_one _ _) (cell_new w #[v1, v2] 27 _ rfl 1 _ rfl))
  have hw1 := (nw_of_owns ho).2.1
  clear S ho
  cases hok : scrOk ss ws bs
  · have E6 : Hid (commitS ss ws bs = []) := commitS_no hok
    have HF : Hid (scrOk ss ws bs = false) := hok
    clear hok
    have q0 := r1.1
    have q1 := r1.2.1
    have f0 := r1.2.2.1
    have f1 := r1.2.2.2.1
    have e5 := (hbw1.setCell (p := ⟨w.heap.size + 1, 0, none⟩) (by simp) (.slice none 0 0)).setCell (p := ⟨w.heap.size + 1, 1, none⟩) (by simp) (.slice none 0 0)
    go_wp2
    exact bodyPost_ret (v := .tuple #[.agg #[.slice none 0 0, .slice none 0 0], .bool false]) (by simp [results, Try.results35, go_sem, q0, q1]) rfl ⟨_, _, by rw [HF.out], by rw [E6.out]; exact nd_zero _ _, .inl ⟨none, rfl, rfl⟩, e5, ⟨_, _, _, rfl, Nat.le_refl _⟩⟩
  · have E6 : Hid (commitS ss ws bs = doneS ss (scrW ss bs)) := commitS_yes hok
    have HT : Hid (scrOk ss ws bs = true) := hok
    obtain ⟨o1, o2, _, _⟩ := scrOk_parts hok
    have HALL : Hid (∀ k, k < (scrW ss bs).length → okW ((scrW ss bs).getD k wr0) = true) := (fun k hk => at_okW (scrW_okW ss bs o2) hk : ∀ k, k < (scrW ss bs).length → okW ((scrW ss bs).getD k wr0) = true)
    rw [scriptR_yes hok] at hw1
    obtain ⟨l64, l200, _, _⟩ := okD_all o1
    have hW31 := (scrW_length ss bs).2
    generalize scrW ss bs = W at *
    have ED : Hid (doneS ss W = holdN ss W W.length) := (by unfold holdN doneS; rw [List.take_length] : doneS ss W = holdN ss W W.length)
    have H64 : Hid (ss.length = 64) := l64
    have n64 : (64 : Int) ≤ (ss.length : Int) := by omega
    have n0 : 0 < ss.length := by omega
    clear hok l64 o1
    go_wp2_with (fail)
    refine (specCopy_cap _ _ ss ws _ (hv1.later hbw1) (hv2.later hbw1) (by have := H64.out; omega) (by omega)).mono ?_
    rintro e w2 ⟨u1, u2, rfl, hN2, hb2, hcp'⟩
    have hcp : Hid (CapS u1) := hcp'
    clear hcp'
    have hS2 : NS w1.heap.size w2 u1 ss := ⟨hN2.1, hN2.2.2.1, hN2.2.2.2.2.1⟩
    obtain ⟨b, cap, rfl, hbb, hbz, _, _⟩ := hS2.form n0
    obtain ⟨bo, bn, bc, rfl⟩ := hN2.s2
    have hbw2 := bel_then hbw1 hbw1.size hb2
    have r2 := r1.later hb2
    have hz1 : w.heap.size + 1 < w2.heap.size := r2.2.2.2.2
    have hz2 : w.heap.size + 1 < w1.heap.size := r1.2.2.2.2
    have hb12 : Below w1.heap.size w1 ((w2.alloc (.cells #[.slice (some ⟨b, 0, none⟩) ss.length cap, .slice (some ⟨w2.heap.size + 1, 0, none⟩) 0 0] 27)).alloc (.cells #[] 42)) := bel_after hb2 (Disk.bel_two _ _ _)
    have cb0 : ((w2.alloc (.cells #[.slice (some ⟨b, 0, none⟩) ss.length cap, .slice (some ⟨w2.heap.size + 1, 0, none⟩) 0 0] 27)).alloc (.cells #[] 42)).cell? ⟨w2.heap.size, 0, none⟩ = some (.slice (some ⟨b, 0, none⟩) ss.length cap) := cell_later (Disk.bel_one _ _) (cell_new w2 _ 27 _ rfl 0 _ rfl)
    have cb1 : ((w2.alloc (.cells #[.slice (some ⟨b, 0, none⟩) ss.length cap, .slice (some ⟨w2.heap.size + 1, 0, none⟩) 0 0] 27)).alloc (.cells #[] 42)).cell? ⟨w2.heap.size, 1, none⟩ = some (.slice (some ⟨w2.heap.size + 1, 0, none⟩) 0 0) := cell_later (Disk.bel_one _ _) (cell_new w2 _ 27 _ rfl 1 _ rfl)
    clear c0 c1 hb1 r1
    obtain ⟨wo, wcp, rfl, hwr⟩ := id hw1
    go_wp2
    go_loopw [9] (fun i wr => ∃ (j : Nat), j ≤ W.length ∧ i = .int .i64 j ∧ NS w1.heap.size wr (.slice (some ⟨b, 0, none⟩) ss.length cap) (holdN ss W j) ∧ Res (w.heap.size + 1) wr ∧ wr.cell? ⟨w2.heap.size, 0, none⟩ = some (.slice (some ⟨b, 0, none⟩) ss.length cap) ∧ wr.cell? ⟨w2.heap.size, 1, none⟩ = some (.slice (some ⟨w2.heap.size + 1, 0, none⟩) 0 0) ∧ w2.heap.size < wr.heap.size ∧ Below w1.heap.size w1 wr) (fun i _ => W.length - (intOf i).toNat)
    case atStart => exact ⟨0, Nat.zero_le _, rfl, by rw [holdN_zero]; exact (hS2.al _).al _, (r2.al _).al _, cb0, cb1, by simp; omega, hb12⟩
    case round =>
      obtain ⟨j, hj, rfl, hN, r, k2, k3, hzr, hb⟩ := hrel
      by_cases hlt : j < W.length
      · obtain ⟨b', o', e', m1, m2⟩ := hwr j hlt
        subst e'
        have m1' := cell_later hb m1
        have m2' := cell_later hb m2
        have hrange := okW_range (HALL.out j hlt)
        have hsucc := holdN_succ ss W j hlt
        generalize hs : W.getD j wr0 = s at *
        obtain ⟨s1, s2⟩ := s
        obtain ⟨x0, x63, _⟩ := hrange
        obtain ⟨k, rfl⟩ := Int.eq_ofNat_of_zero_le x0
        have HS : Hid (holdN ss W (j + 1) = (holdN ss W j).set k s2) := hsucc
        have hkn : k < ss.length := by have := H64.out; simp only at x63; omega
        have hlen : (holdN ss W j).length = ss.length := holdN_length ss W j
        obtain ⟨b2, cap2, e2, _, _, hcell, hfrz⟩ := hN.form (by omega)
        simp only [Value.slice.injEq, Option.some.injEq, Addr.mk.injEq, and_true] at e2
        obtain ⟨rfl, enn, rfl⟩ := e2
        clear enn
        have t1 := hcell k (by omega)
        have t2 := hfrz k
        generalize (holdN ss W j).getD k ByteArray.empty = old at *
        clear hs hsucc hcell hfrz hwr m1 m2
        have R := hN.put s2 (k := k) (by omega)
        have R2 := (r.put (b := b) (k := k) (u := .string s2) (by omega)).dr
        have K2 := cell_put (b := b) (k := k) (u := .string s2) (by omega) k2
        have K3 := cell_put (b := b) (k := k) (u := .string s2) (by omega) k3
        have G := (hb.setCell (p := ⟨b, k, none⟩) (by simp; omega) (.string s2)).drew
        rw [← HS.out] at R
        simp only at m1' m2'
        clear hlen hS2 hN2 hbw2 r2 hb2 hb0 hv1 hv2 hN hw1 hb12 cb0 cb1
        go_wp2
        go_region
        all_goals go_wp2
        all_goals go_roundw
        case rel => exact ⟨j + 1, by omega, by go_num, R.dr, R2, K2, K3, by simpa using hzr, G⟩
        case measure => simp [intOf]; omega
      · obtain rfl : j = W.length := by omega
        have q0 := r.1
        have q1 := r.2.1
        have f0 := r.2.2.1
        have f1 := r.2.2.2.1
        have zr : w.heap.size + 1 < wr.heap.size := r.2.2.2.2
        clear hS2 hN2 hbw2 r2 hb2 hb0 hv1 hv2 r hwr hw1 hb12 cb0 cb1
        have P1 := (hN.aside (c := w.heap.size + 1) (o := 0) (.slice (some ⟨b, 0, none⟩) ss.length cap) (by omega)).aside (c := w.heap.size + 1) (o := 1) (.slice (some ⟨w2.heap.size + 1, 0, none⟩) 0 0) (by omega)
        have P2 := ((bel_after hbw1 hb).setCell (p := ⟨w.heap.size + 1, 0, none⟩) (by simp) (.slice (some ⟨b, 0, none⟩) ss.length cap)).setCell (p := ⟨w.heap.size + 1, 1, none⟩) (by simp) (.slice (some ⟨w2.heap.size + 1, 0, none⟩) 0 0)
        go_wp2
        exact bodyPost_ret (v := .tuple #[.agg #[.slice (some ⟨b, 0, none⟩) ss.length cap, .slice (some ⟨w2.heap.size + 1, 0, none⟩) 0 0], .bool true]) (by simp [results, Try.results35, go_sem, q0, q1]) rfl ⟨_, _, by rw [HT.out], by rw [E6.out, ED.out]; exact ND_of (P1.mono (by omega)) (nw_empty _ _ _ _), .inl ⟨_, rfl, rfl⟩, P2, hcp.out⟩

theorem specCommit_any (v1 v2 bv : Value) (ss : List ByteArray) (ws : List Disk.Wr) (bs : List ByteArray) (w : World)
    (hv1 : Disk.SR w v1 ss) (hv2 : Disk.WR w v2 ws) (h1 : ss.length ≤ 10000000000000) (h2 : ws.length ≤ 10000000000000) (hbv : Disk.SR w bv bs) (h3 : bs.length ≤ 10000000000000) :
    Calls Try.prog 35 #[.agg #[v1, v2], bv] w fun e w' => ∃ u1 u2, e = .returned (.tuple #[.agg #[u1, u2], .bool (scrOk ss ws bs)]) ∧ ND w.heap.size w' u1 u2 (commitS ss ws bs) [] ∧ Below w.heap.size w w' :=
  (specCommit_no v1 v2 bv ss ws bs w hv1 hv2 h1 h2 hbv h3).mono fun _ _ ⟨u1, u2, e, n, _, b, _⟩ => ⟨u1, u2, e, n, b⟩

end Go.Proofs.Ytddocjmjianajaa
