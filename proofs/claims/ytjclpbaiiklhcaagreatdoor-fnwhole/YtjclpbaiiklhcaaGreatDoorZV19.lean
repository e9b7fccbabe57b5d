import Derived.Test.YtjclpbaiiklhcaaGreatDoorZV17
import Derived.Test.YtjclpbaiiklhcaaGreatDoorZV18
import Derived.Test.YtjclpbaiiklhcaaGreatDoorZDImplHold
import Derived.Test.YtjclpbaiiklhcaaGreatDoorZV6
import Derived.Test.YtjclpbaiiklhcaaGreatDoorZV16
import Derived.Deep.RegionHeld3
import Derived.Deep.DeepCutAuto
import Derived.Laws.StructEq
/- Commit of the program and of the model. -/
namespace Go.Proofs.YtjclpbaiiklhcaaGreatDoor
open Go.RowKit Disk

set_option maxRecDepth 100000 in
set_option maxHeartbeats 3200000 in
theorem specCommit_no (v1 v2 bv : Value) (ss : List ByteArray) (ws : List Disk.Wr) (bs : List ByteArray) (w : World)
    (hv1 : Disk.SR w v1 ss) (hv2 : Disk.WR w v2 ws) (h1 : ss.length ≤ 10000000000000) (h2 : ws.length ≤ 10000000000000) (hbv : Disk.SR w bv bs) (h3 : bs.length ≤ 10000000000000) :
    Calls Tryz.prog 8 #[.agg #[v1, v2], bv] w fun e w' => ∃ u1 u2, e = .returned (.tuple #[.agg #[u1, u2], .bool (scrOk ss ws bs)]) ∧ ND w.heap.size w' u1 u2 (commitS ss ws bs) [] ∧ NO w.heap.size w' u2 [] ∧ Below w.heap.size w w' ∧ CapS u1 := by
  have hb0 := bel_two w (.cells #[v1, v2] 27) (.cells #[.slice none 0 0, .slice none 0 0] 27)
  have S := l3Script_any v1 v2 bv ss ws bs _ (hv1.later hb0) (hv2.later hb0) h1 h2 (hbv.later hb0) h3
  go_enter Tryz.func8, Tryz.ntmps8
  go_wp2_with (fail)
  refine S.mono ?_
  rintro x w1 ⟨⟨wv, rfl, ho⟩, hb1⟩
  have hbw1 : Below w.heap.size w w1 := hb0.trans (hb1.mono (by simp; omega))
  have r1 : Res (w.heap.size + 1) w1 := Res.later ⟨cell_new _ _ 27 _ (by simp) 0 _ rfl, cell_new _ _ 27 _ (by simp) 1 _ rfl, frozen_new _ _ 27 _ (by simp) 0, frozen_new _ _ 27 _ (by simp) 1, by simp⟩ hb1
  have c0 : w1.cell? ⟨w.heap.size, 0, none⟩ = some v1 := cell_later hb1 (cell_later (Disk.bel_one _ _) (cell_new w #[v1, v2] 27 _ rfl 0 _ rfl))
  have c1 : w1.cell? ⟨w.heap.size, 1, none⟩ = some v2 := cell_later hb1 (cell_later (Disk.bel_one _ _) (cell_new w #[v1, v2] 27 _ rfl 1 _ rfl))
  have hw1 := (nw_of_owns ho).2.1
  clear S ho
  cases hok : scrOk ss ws bs
  · have E6 : Hid (commitS ss ws bs = []) := commitS_no hok
    have HF : Hid (scrOk ss ws bs = false) := hok
    clear hok
    have q0 := r1.1
    have q1 := r1.2.1
    have f0 := r1.2.2.1
    have f1 := r1.2.2.2.1
    have e5 := (hbw1.setCell (p := ⟨w.heap.size + 1, 0, none⟩) (by simp) (.slice none 0 0)).setCell (p := ⟨w.heap.size + 1, 1, none⟩) (by simp) (.slice none 0 0)
    go_wp2
    exact bodyPost_ret (v := .tuple #[.agg #[.slice none 0 0, .slice none 0 0], .bool false]) (by simp [results, Tryz.results8, go_sem, q0, q1]) rfl ⟨_, _, by rw [HF.out], by rw [E6.out]; exact nd_zero _ _, .inl ⟨none, rfl, rfl⟩, e5, ⟨_, _, _, rfl, Nat.le_refl _⟩⟩
  · have E6 : Hid (commitS ss ws bs = doneS ss (scrW ss bs)) := commitS_yes hok
    have HT : Hid (scrOk ss ws bs = true) := hok
    obtain ⟨o1, o2, _, _⟩ := scrOk_parts hok
    have HALL : Hid (∀ k, k < (scrW ss bs).length → okW ((scrW ss bs).getD k wr0) = true) := (fun k hk => at_okW (scrW_okW ss bs o2) hk : ∀ k, k < (scrW ss bs).length → okW ((scrW ss bs).getD k wr0) = true)
    rw [scriptR_yes hok] at hw1
    obtain ⟨l64, l200, _, _⟩ := okD_all o1
    have hW31 := (scrW_length ss bs).2
    generalize scrW ss bs = W at *
    have ED : Hid (doneS ss W = holdN ss W W.length) := (by unfold holdN doneS; rw [List.take_length] : doneS ss W = holdN ss W W.length)
    have H64 : Hid (ss.length = 64) := l64
    have n64 : (64 : Int) ≤ (ss.length : Int) := by omega
    have n0 : 0 < ss.length := by omega
    clear hok l64 o1
    go_wp2_with (fail)
    refine (specCopy_cap _ _ ss ws _ (hv1.later hbw1) (hv2.later hbw1) (by have := H64.out; omega) (by omega)).mono ?_
    rintro e w2 ⟨u1, u2, rfl, hN2, hb2, hcp'⟩
    have hcp : Hid (CapS u1) := hcp'
    clear hcp'
    have hS2 : NS w1.heap.size w2 u1 ss := ⟨hN2.1, hN2.2.2.1, hN2.2.2.2.2.1⟩
    obtain ⟨b, cap, rfl, hbb, hbz, _, _⟩ := hS2.form n0
    obtain ⟨bo, bn, bc, rfl⟩ := hN2.s2
    have hbw2 := bel_then hbw1 hbw1.size hb2
    have r2 := r1.later hb2
    have hz1 : w.heap.size + 1 < w2.heap.size := r2.2.2.2.2
    have hz2 : w.heap.size + 1 < w1.heap.size := r1.2.2.2.2
    have hb12 : Below w1.heap.size w1 ((w2.alloc (.cells #[.slice (some ⟨b, 0, none⟩) ss.length cap, .slice (some ⟨w2.heap.size + 1, 0, none⟩) 0 0] 27)).alloc (.cells #[] 48)) := bel_after hb2 (Disk.bel_two _ _ _)
    have cb0 : ((w2.alloc (.cells #[.slice (some ⟨b, 0, none⟩) ss.length cap, .slice (some ⟨w2.heap.size + 1, 0, none⟩) 0 0] 27)).alloc (.cells #[] 48)).cell? ⟨w2.heap.size, 0, none⟩ = some (.slice (some ⟨b, 0, none⟩) ss.length cap) := cell_later (Disk.bel_one _ _) (cell_new w2 _ 27 _ rfl 0 _ rfl)
    have cb1 : ((w2.alloc (.cells #[.slice (some ⟨b, 0, none⟩) ss.length cap, .slice (some ⟨w2.heap.size + 1, 0, none⟩) 0 0] 27)).alloc (.cells #[] 48)).cell? ⟨w2.heap.size, 1, none⟩ = some (.slice (some ⟨w2.heap.size + 1, 0, none⟩) 0 0) := cell_later (Disk.bel_one _ _) (cell_new w2 _ 27 _ rfl 1 _ rfl)
    clear c0 c1 hb1 r1
    obtain ⟨wo, wcp, rfl, hwr⟩ := id hw1
    go_wp2
    go_loopw [9] (fun i wr => ∃ (j : Nat), j ≤ W.length ∧ i = .int .i64 j ∧ NS w1.heap.size wr (.slice (some ⟨b, 0, none⟩) ss.length cap) (holdN ss W j) ∧ Res (w.heap.size + 1) wr ∧ wr.cell? ⟨w2.heap.size, 0, none⟩ = some (.slice (some ⟨b, 0, none⟩) ss.length cap) ∧ wr.cell? ⟨w2.heap.size, 1, none⟩ = some (.slice (some ⟨w2.heap.size + 1, 0, none⟩) 0 0) ∧ w2.heap.size < wr.heap.size ∧ Below w1.heap.size w1 wr) (fun i _ => W.length - (intOf i).toNat)
    case atStart => exact ⟨0, Nat.zero_le _, rfl, by rw [holdN_zero]; exact (hS2.al _).al _, (r2.al _).al _, cb0, cb1, by simp; omega, hb12⟩
    case round =>
      obtain ⟨j, hj, rfl, hN, r, k2, k3, hzr, hb⟩ := hrel
      by_cases hlt : j < W.length
      · obtain ⟨b', o', e', m1, m2⟩ := hwr j hlt
        subst e'
        have m1' := cell_later hb m1
        have m2' := cell_later hb m2
        have hrange := okW_range (HALL.out j hlt)
        have hsucc := holdN_succ ss W j hlt
        generalize hs : W.getD j wr0 = s at *
        obtain ⟨s1, s2⟩ := s
        obtain ⟨x0, x63, _⟩ := hrange
        obtain ⟨k, rfl⟩ := Int.eq_ofNat_of_zero_le x0
        have HS : Hid (holdN ss W (j + 1) = (holdN ss W j).set k s2) := hsucc
        have hkn : k < ss.length := by have := H64.out; simp only at x63; omega
        have hlen : (holdN ss W j).length = ss.length := holdN_length ss W j
        obtain ⟨b2, cap2, e2, _, _, hcell, hfrz⟩ := hN.form (by omega)
        simp only [Value.slice.injEq, Option.some.injEq, Addr.mk.injEq, and_true] at e2
        obtain ⟨rfl, enn, rfl⟩ := e2
        clear enn
        have t1 := hcell k (by omega)
        have t2 := hfrz k
        generalize (holdN ss W j).getD k ByteArray.empty = old at *
        clear hs hsucc hcell hfrz hwr m1 m2
        have R := hN.put s2 (k := k) (by omega)
        have R2 := (r.put (b := b) (k := k) (u := .string s2) (by omega)).dr
        have K2 := cell_put (b := b) (k := k) (u := .string s2) (by omega) k2
        have K3 := cell_put (b := b) (k := k) (u := .string s2) (by omega) k3
        have G := (hb.setCell (p := ⟨b, k, none⟩) (by simp; omega) (.string s2)).drew
        rw [← HS.out] at R
        simp only at m1' m2'
        clear hlen hS2 hN2 hbw2 r2 hb2 hb0 hv1 hv2 hN hw1 hb12 cb0 cb1
        go_wp2
        go_region
        all_goals go_wp2
        all_goals go_roundw
        case rel => exact ⟨j + 1, by omega, by go_num, R.dr, R2, K2, K3, by simpa using hzr, G⟩
        case measure => simp [intOf]; omega
      · obtain rfl : j = W.length := by omega
        have q0 := r.1
        have q1 := r.2.1
        have f0 := r.2.2.1
        have f1 := r.2.2.2.1
        have zr : w.heap.size + 1 < wr.heap.size := r.2.2.2.2
        clear hS2 hN2 hbw2 r2 hb2 hb0 hv1 hv2 r hwr hw1 hb12 cb0 cb1
        have P1 := (hN.aside (c := w.heap.size + 1) (o := 0) (.slice (some ⟨b, 0, none⟩) ss.length cap) (by omega)).aside (c := w.heap.size + 1) (o := 1) (.slice (some ⟨w2.heap.size + 1, 0, none⟩) 0 0) (by omega)
        have P2 := ((bel_after hbw1 hb).setCell (p := ⟨w.heap.size + 1, 0, none⟩) (by simp) (.slice (some ⟨b, 0, none⟩) ss.length cap)).setCell (p := ⟨w.heap.size + 1, 1, none⟩) (by simp) (.slice (some ⟨w2.heap.size + 1, 0, none⟩) 0 0)
        go_wp2
        exact bodyPost_ret (v := .tuple #[.agg #[.slice (some ⟨b, 0, none⟩) ss.length cap, .slice (some ⟨w2.heap.size + 1, 0, none⟩) 0 0], .bool true]) (by simp [results, Tryz.results8, go_sem, q0, q1]) rfl ⟨_, _, by rw [HT.out], by rw [E6.out, ED.out]; exact ND_of (P1.mono (by omega)) (nw_empty _ _ _ _), .inl ⟨_, rfl, rfl⟩, P2, hcp.out⟩

theorem specCommit_any (v1 v2 bv : Value) (ss : List ByteArray) (ws : List Disk.Wr) (bs : List ByteArray) (w : World)
    (hv1 : Disk.SR w v1 ss) (hv2 : Disk.WR w v2 ws) (h1 : ss.length ≤ 10000000000000) (h2 : ws.length ≤ 10000000000000) (hbv : Disk.SR w bv bs) (h3 : bs.length ≤ 10000000000000) :
    Calls Tryz.prog 8 #[.agg #[v1, v2], bv] w fun e w' => ∃ u1 u2, e = .returned (.tuple #[.agg #[u1, u2], .bool (scrOk ss ws bs)]) ∧ ND w.heap.size w' u1 u2 (commitS ss ws bs) [] ∧ Below w.heap.size w w' :=
  (specCommit_no v1 v2 bv ss ws bs w hv1 hv2 h1 h2 hbv h3).mono fun _ _ ⟨u1, u2, e, n, _, b, _⟩ => ⟨u1, u2, e, n, b⟩

end Go.Proofs.YtjclpbaiiklhcaaGreatDoor

/- A disk drawn. -/
namespace Go.Proofs.YtjclpbaiiklhcaaGreatDoor
open Go.RowKit

/-- The box of a disk's two slices. -/
def Bx (w : World) (D : Nat) (u1 u2 : Value) : Prop := w.heap[D]? = some (.cells #[u1, u2] 27 (0, 0))
theorem Bx.c0 {w : World} {D : Nat} {u1 u2 : Value} (h : Bx w D u1 u2) : w.cell? ⟨D, 0, none⟩ = some u1 := by simp [World.cell?, show w.heap[D]? = _ from h]
theorem Bx.c1 {w : World} {D : Nat} {u1 u2 : Value} (h : Bx w D u1 u2) : w.cell? ⟨D, 1, none⟩ = some u2 := by simp [World.cell?, show w.heap[D]? = _ from h]
theorem Bx.f {w : World} {D o : Nat} {u1 u2 : Value} (h : Bx w D u1 u2) : w.frozen? ⟨D, o, none⟩ = false := by simp [World.frozen?, show w.heap[D]? = _ from h]
theorem Bx.lt {w : World} {D : Nat} {u1 u2 : Value} (h : Bx w D u1 u2) : D < w.heap.size := by
  obtain ⟨hlt, _⟩ := Array.getElem?_eq_some_iff.1 (show w.heap[D]? = _ from h)
  exact hlt
theorem Bx.later {w w' : World} {D : Nat} {u1 u2 : Value} (h : Bx w D u1 u2) (hb : Below w.heap.size w w') : Bx w' D u1 u2 := (hb.block D h.lt).trans h
theorem Bx.grown {w w' : World} {D : Nat} {u1 u2 : Value} {r : Option Nat} (h : Bx w D u1 u2) (hg : w.grownBy w' r) (hr : some D ≠ r) : Bx w' D u1 u2 := (hg.block D h.lt hr).trans h
theorem Bx.set {w : World} {D : Nat} {u1 u2 : Value} (h : Bx w D u1 u2) (x y : Value) : Bx ((w.setCell ⟨D, 0, none⟩ x).setCell ⟨D, 1, none⟩ y) D x y := by
  unfold Bx
  simp [World.setCell, Array.getElem?_modify, show w.heap[D]? = _ from h]
theorem Bx.new (w : World) (u1 u2 : Value) : Bx (w.alloc (.cells #[u1, u2] 27)) w.heap.size u1 u2 := heap_alloc_new w _
theorem Dw.drew {N : Nat} {cv : Value} {cs : List UInt8} {w : World} (h : Dw N cv cs w) : Dw N cv cs w.drew := ⟨h.br, h.len, h.dr.drew, h.off⟩
/-- A disk under way: drawn from N, its box in D. -/
structure Dd (w : World) (N : Nat) (cv : Value) (cs : List UInt8) (D : Nat) (W : World) (u1 u2 : Value) (ss : List ByteArray) (ws : List Disk.Wr) : Prop where
  dw : Dw N cv cs W
  gr : w.grownBy W (some N)
  bx : Bx W D u1 u2
  lo : w.heap.size < D
  rs : Bx W w.heap.size (.slice none 0 0) (.slice none 0 0)
  ns : Disk.NS w.heap.size W u1 ss
  no : Disk.NO w.heap.size W u2 ws
  l1 : ss.length = 64
  l2 : ws.length ≤ 300
  cp : Disk.CapS u1
  sz : ∀ s ∈ ss, s.size ≤ 257

theorem os_off {w w' : World} {N B t size n : Nat} {v : Value} (h : Disk.OS w t size v n) (g : w.grownBy w' (some N)) (hr : ∀ b, Disk.rowOf v n = some b → B ≤ b) (hN : N < B) : Disk.OS w' t size v n := by
  obtain ⟨ao, cap, rfl, h⟩ := h
  refine ⟨ao, cap, rfl, ?_⟩
  rcases h with h | ⟨b, M, f, rfl, hM, hf⟩
  · exact .inl h
  · by_cases hn : n = 0
    · exact .inl hn
    · have := hr b (by rw [Disk.rowOf, if_neg (by omega)]; rfl)
      exact .inr ⟨b, M, f, rfl, hM, World.rowIs.of_block hf (g.block b (World.rowIs.lt hf) (fun e => by have := Option.some.inj e; omega))⟩
theorem ns_off {w w' : World} {N B : Nat} {v : Value} {ss : List ByteArray} (h : Disk.NS B w v ss) (g : w.grownBy w' (some N)) (hN : N < B) : Disk.NS B w' v ss := by
  refine ⟨os_off h.1 g h.2.2 hN, ?_, h.2.2⟩
  obtain ⟨ao, cap, rfl, hc⟩ := h.2.1
  refine ⟨ao, cap, rfl, fun i hi => ?_⟩
  obtain ⟨b, o, rfl, hci⟩ := hc i hi
  have := h.2.2 b (by rw [Disk.rowOf, if_neg (by omega)]; rfl)
  exact ⟨b, o, rfl, g.cell hci (fun e => by have e2 : b = N := Option.some.inj e; omega)⟩
theorem nw_off {w w' : World} {N B : Nat} {v : Value} {ws : List Disk.Wr} (h : Disk.NW B w v ws) (g : w.grownBy w' (some N)) (hN : N < B) : Disk.NW B w' v ws := by
  refine ⟨os_off h.1 g h.2.2 hN, ?_, h.2.2⟩
  obtain ⟨ao, cap, rfl, hc⟩ := h.2.1
  refine ⟨ao, cap, rfl, fun i hi => ?_⟩
  obtain ⟨b, o, rfl, hci, hci'⟩ := hc i hi
  have := h.2.2 b (by rw [Disk.rowOf, if_neg (by omega)]; rfl)
  exact ⟨b, o, rfl, g.cell hci (fun e => by have e2 : b = N := Option.some.inj e; omega), g.cell hci' (fun e => by have e2 : b = N := Option.some.inj e; omega)⟩
theorem Dd.nw {w W : World} {N D : Nat} {cv : Value} {cs : List UInt8} {u1 u2 : Value} {ss : List ByteArray} {ws : List Disk.Wr} (h : Dd w N cv cs D W u1 u2 ss ws) : Disk.NW w.heap.size W u2 ws := h.no.nw
theorem no_off {w w' : World} {N B : Nat} {v : Value} {ws : List Disk.Wr} (h : Disk.NO B w v ws) (g : w.grownBy w' (some N)) (hN : N < B) : Disk.NO B w' v ws := h.imp id (fun h => own_off h g hN)
theorem Dd.step {w W W' : World} {N D : Nat} {cv : Value} {cs : List UInt8} {u1 u2 : Value} {ss : List ByteArray} {ws : List Disk.Wr} (h : Dd w N cv cs D W u1 u2 ss ws) (hN : N < w.heap.size) (g : W.grownBy W' (some N)) (d : Dw N cv cs W') : Dd w N cv cs D W' u1 u2 ss ws :=
  ⟨d, gtrans h.gr g, h.bx.grown g (fun e => by have := Option.some.inj e; have := h.lo; omega), h.lo, h.rs.grown g (fun e => by have := Option.some.inj e; omega), ns_off h.ns g hN, no_off h.no g hN, h.l1, h.l2, h.cp, h.sz⟩

theorem os_sep {w : World} {D t t' size n : Nat} {v : Value} {c : Array Value} (h : Disk.OS w t size v n) (hD : w.heap[D]? = some (.cells c t' (0, 0))) (ht : t ≠ t') : ∀ b, Disk.rowOf v n = some b → b ≠ D := by
  obtain ⟨ao, cap, rfl, h⟩ := h
  intro b hb e
  subst e
  rcases h with h | ⟨b', M, f, rfl, hM, hf⟩
  · subst h
    simp [Disk.rowOf] at hb
  · rw [Disk.rowOf] at hb
    split at hb
    · cases hb
    · obtain rfl : b' = b := Option.some.inj hb
      obtain ⟨cc, hc, _⟩ := hf
      rw [hc] at hD
      simp at hD
      exact ht hD.2
theorem os_sepd {w w' : World} {D t size n : Nat} {v : Value} (h : Disk.OS w t size v n) (g : w.grownBy w' (some D)) (hr : ∀ b, Disk.rowOf v n = some b → b ≠ D) : Disk.OS w' t size v n := by
  obtain ⟨ao, cap, rfl, h⟩ := h
  refine ⟨ao, cap, rfl, ?_⟩
  rcases h with h | ⟨b, M, f, rfl, hM, hf⟩
  · exact .inl h
  · by_cases hn : n = 0
    · exact .inl hn
    · have := hr b (by rw [Disk.rowOf, if_neg (by omega)]; rfl)
      exact .inr ⟨b, M, f, rfl, hM, World.rowIs.of_block hf (g.block b (World.rowIs.lt hf) (fun e => this (Option.some.inj e)))⟩
theorem ns_sep {w w' : World} {D B : Nat} {v : Value} {ss : List ByteArray} (h : Disk.NS B w v ss) (g : w.grownBy w' (some D)) (hr : ∀ b, Disk.rowOf v ss.length = some b → b ≠ D) : Disk.NS B w' v ss := by
  refine ⟨os_sepd h.1 g hr, ?_, h.2.2⟩
  obtain ⟨ao, cap, rfl, hc⟩ := h.2.1
  refine ⟨ao, cap, rfl, fun i hi => ?_⟩
  obtain ⟨b, o, rfl, hci⟩ := hc i hi
  have := hr b (by rw [Disk.rowOf, if_neg (by omega)]; rfl)
  exact ⟨b, o, rfl, g.cell hci (fun e => this (Option.some.inj e))⟩
theorem no_sep {w w' : World} {D B t' : Nat} {c : Array Value} {v : Value} {ws : List Disk.Wr} (h : Disk.NO B w v ws) (g : w.grownBy w' (some D)) (hD : w.heap[D]? = some (.cells c t' (0, 0))) (ht : 48 ≠ t') : Disk.NO B w' v ws := by
  rcases h with h | h
  · exact .inl h
  · refine .inr ?_
    obtain ⟨hl, h1 | ⟨b, cap, cur, rfl, hB, hh, r⟩⟩ := h
    · exact ⟨hl, .inl h1⟩
    · refine ⟨hl, .inr ⟨b, cap, cur, rfl, hB, ?_, r⟩⟩
      have hlt : b < w.heap.size := by
        obtain ⟨hlt, _⟩ := Array.getElem?_eq_some_iff.1 hh
        exact hlt
      refine (g.block b hlt (fun e => ?_)).trans hh
      have e2 : b = D := Option.some.inj e
      subst e2
      rw [hh] at hD
      simp at hD
      exact ht hD.2
theorem Dd.br {w W W' : World} {N D : Nat} {cv : Value} {cs : List UInt8} {u1 u2 : Value} {ss : List ByteArray} {ws : List Disk.Wr} (h : Dd w N cv cs D W u1 u2 ss ws) (hc : BR w cv cs) (k : W.grownBy W' (some D)) : BR W' cv cs := by
  have hlo := h.lo
  obtain ⟨ao, cap, rfl, hle, hb⟩ := h.dw.br
  refine ⟨ao, cap, rfl, hle, fun i hi => ?_⟩
  obtain ⟨b, o, rfl, hci⟩ := hb i hi
  refine ⟨b, o, rfl, k.cell hci (fun e => ?_)⟩
  have e2 : b = D := Option.some.inj e
  obtain ⟨_, _, e3, _, hcc⟩ := hc
  obtain ⟨b', o', e4, hx⟩ := hcc i hi
  simp at e3
  obtain ⟨rfl, _⟩ := e3
  simp at e4
  have := World.block_lt_of_cell? _ _ hx
  simp at this
  omega
/-- Another disk goes into the box. -/
theorem Dd.put {w W : World} {N D : Nat} {cv : Value} {cs : List UInt8} {u1 u2 x1 x2 : Value} {ss ss' : List ByteArray} {ws ws' : List Disk.Wr} (h : Dd w N cv cs D W u1 u2 ss ws) (hbr : BR w cv cs) (hN : N < w.heap.size) (ns : Disk.NS w.heap.size W x1 ss') (no : Disk.NO w.heap.size W x2 ws') (l1 : ss'.length = 64) (l2 : ws'.length ≤ 300) (cp : Disk.CapS x1) (sz : ∀ s ∈ ss', s.size ≤ 257) :
    Dd w N cv cs D ((W.setCell ⟨D, 0, none⟩ x1).setCell ⟨D, 1, none⟩ x2) x1 x2 ss' ws' := by
  have k : W.grownBy ((W.setCell ⟨D, 0, none⟩ x1).setCell ⟨D, 1, none⟩ x2) (some D) := gset (gset1 W D 0 x1) 1 x2
  have hlo := h.lo
  have hsz := h.gr.size
  have g : w.grownBy ((W.setCell ⟨D, 0, none⟩ x1).setCell ⟨D, 1, none⟩ x2) (some N) := gmix h.gr k (fun e he => by have := Option.some.inj he; omega)
  have g' : W.grownBy ((W.setCell ⟨D, 0, none⟩ x1).setCell ⟨D, 1, none⟩ x2) (some D) := k
  refine ⟨⟨?_, h.dw.len, h.dw.dr.grown k (fun e => by have := Option.some.inj e; omega) (by omega), h.dw.off⟩, g, h.bx.set x1 x2, h.lo, h.rs.grown k (fun e => by have := Option.some.inj e; omega), ns_sep ns k (os_sep ns.1 h.bx (by decide)), no_sep no k h.bx (by decide), l1, l2, cp, sz⟩
  exact Dd.br h hbr k
theorem zB {a b : World} {N : Nat} {C : Prop} (g : (a.alloc (.cells #[.slice none 0 0, .slice none 0 0] 27)).grownBy b (some N)) (hN : N < a.heap.size) (k : Bx b a.heap.size (.slice none 0 0) (.slice none 0 0) → C) : C :=
  k ((Bx.new a (.slice none 0 0) (.slice none 0 0)).grown g (fun e => by have := Option.some.inj e; omega))
theorem zBd {a b : World} {N : Nat} {C : Prop} (g : (a.alloc (.cells #[.slice none 0 0, .slice none 0 0] 27)).drew.grownBy b (some N)) (hN : N < a.heap.size) (k : Bx b a.heap.size (.slice none 0 0) (.slice none 0 0) → C) : C :=
  k ((g.block a.heap.size (Bx.new a (.slice none 0 0) (.slice none 0 0)).lt (fun e => by have := Option.some.inj e; omega)).trans (Bx.new a (.slice none 0 0) (.slice none 0 0)))
theorem zBg {X b : World} {N D : Nat} {u v : Value} {C : Prop} (g : X.grownBy b (some N)) (z : Bx X D u v) (hN : N < D) (k : Bx b D u v → C) : C :=
  k (z.grown g (fun e => by have := Option.some.inj e; omega))
theorem zC {X b : World} {D : Nat} {u v : Value} {C : Prop} (hb : Below X.heap.size X b) (z : Bx X D u v) (k : b.cell? ⟨D, 0, none⟩ = some u → b.cell? ⟨D, 1, none⟩ = some v → b.frozen? ⟨D, 0, none⟩ = false → b.frozen? ⟨D, 1, none⟩ = false → Bx b D u v → C) : C :=
  k (z.later hb).c0 (z.later hb).c1 (z.later hb).f (z.later hb).f (z.later hb)
def Sx (wr : World) (N : Nat) (cv : Value) (cs : List UInt8) (w' : World) : Prop := wr.grownBy w' (some N) ∧ Dw N cv cs w'
theorem mkS {w wr w' : World} {N D : Nat} {cv : Value} {cs : List UInt8} {u1 u2 : Value} {ss : List ByteArray} {ws : List Disk.Wr} (h : Dd w N cv cs D wr u1 u2 ss ws) (hN : N < w.heap.size) (g : wr.grownBy w' (some N)) (d : Dw N cv cs w') :
    w'.cell? ⟨D, 0, none⟩ = some u1 ∧ w'.cell? ⟨D, 1, none⟩ = some u2 ∧ Sx wr N cv cs w' := ⟨(h.step hN g d).bx.c0, (h.step hN g d).bx.c1, g, d⟩
theorem mkSa {w wr X : World} {N D : Nat} {cv : Value} {cs : List UInt8} {u1 u2 : Value} {ss : List ByteArray} {ws : List Disk.Wr} {A B : Prop} (h : Dd w N cv cs D wr u1 u2 ss ws) (hN : N < w.heap.size) (s : A ∧ B ∧ Sx wr N cv cs X) (o : Obj) :
    (X.alloc o).cell? ⟨D, 0, none⟩ = some u1 ∧ (X.alloc o).cell? ⟨D, 1, none⟩ = some u2 ∧ Sx wr N cv cs (X.alloc o) := by
  have hs := h.gr.size
  have hx := s.2.2.1.size
  have g : wr.grownBy (X.alloc o) (some N) := gtrans s.2.2.1 (galloc _ _ _)
  exact mkS h hN g (h.dw.grown g s.2.2.2 (galloc _ _ none) (by simp) (by omega))
theorem mkSs {w wr X : World} {N D SB : Nat} {cv : Value} {cs : List UInt8} {u1 u2 : Value} {ss : List ByteArray} {ws : List Disk.Wr} {A B : Prop} (h : Dd w N cv cs D wr u1 u2 ss ws) (hN : N < w.heap.size) (s : A ∧ B ∧ Sx wr N cv cs X) (hSB : wr.heap.size ≤ SB) (a b : Value) :
    ((X.setCell ⟨SB, 0, none⟩ a).setCell ⟨SB, 1, none⟩ b).cell? ⟨D, 0, none⟩ = some u1 ∧ ((X.setCell ⟨SB, 0, none⟩ a).setCell ⟨SB, 1, none⟩ b).cell? ⟨D, 1, none⟩ = some u2 ∧ Sx wr N cv cs ((X.setCell ⟨SB, 0, none⟩ a).setCell ⟨SB, 1, none⟩ b) := by
  have hs := h.gr.size
  have hx := s.2.2.1.size
  have k : X.grownBy ((X.setCell ⟨SB, 0, none⟩ a).setCell ⟨SB, 1, none⟩ b) (some SB) := gset (gset1 X SB 0 a) 1 b
  have g : wr.grownBy ((X.setCell ⟨SB, 0, none⟩ a).setCell ⟨SB, 1, none⟩ b) (some N) := gmix s.2.2.1 k (fun e he => by have := Option.some.inj he; omega)
  exact mkS h hN g (h.dw.grown g s.2.2.2 k (fun e => by have := Option.some.inj e; omega) (by omega))
theorem Sd {wr X : World} {N : Nat} {cv : Value} {cs : List UInt8} {A B : Prop} (s : A ∧ B ∧ Sx wr N cv cs X) : Dw N cv cs X := s.2.2.2
theorem Sg {wr X : World} {N : Nat} {cv : Value} {cs : List UInt8} {A B : Prop} (s : A ∧ B ∧ Sx wr N cv cs X) : wr.grownBy X (some N) := s.2.2.1
theorem bodiesK' {w wr X : World} {N D : Nat} {cv : Value} {cs : List UInt8} {u1 u2 : Value} {ss : List ByteArray} {ws : List Disk.Wr} {A B : Prop} (h : Dd w N cv cs D wr u1 u2 ss ws) (hN : N < w.heap.size) (s : A ∧ B ∧ Sx wr N cv cs X) :
    Calls Tryz.prog 24 #[.pointer (some ⟨N, 0, none⟩)] X fun x w' => ∃ (v : Value) (bs : List ByteArray), x = .returned v ∧ Disk.SR w' v bs ∧ bs.length ≤ 31 ∧ Sx wr N cv cs w' ∧ X.grownBy w' (some N) := by
  refine (Dw.bodies s.2.2.2 (by have := h.gr.size; have := s.2.2.1.size; omega)).mono ?_
  rintro x w' ⟨⟨v, bs, rfl, hv, hl⟩, g, d⟩
  exact ⟨v, bs, rfl, hv.2.1, hl, ⟨gtrans s.2.2.1 g, d⟩, g⟩
theorem fit_okD {ss : List ByteArray} {ws : List Disk.Wr} (h : Disk.okD ss ws = true) : ∀ s ∈ ss, s.size ≤ 257 := fun s hs => by
  obtain ⟨k, hk, e⟩ := List.mem_iff_getElem.1 hs
  have := (Disk.okD_all h).2.2.1 k hk
  rw [List.getD_eq_getElem?_getD, List.getElem?_eq_getElem hk] at this
  have e2 : (some ss[k]).getD ByteArray.empty = s := e
  rw [e2] at this
  omega
theorem commitK {w wr X : World} {N D : Nat} {cv bv : Value} {cs : List UInt8} {u1 u2 : Value} {ss bs : List ByteArray} {ws : List Disk.Wr} {A B : Prop} (h : Dd w N cv cs D wr u1 u2 ss ws) (hN : N < w.heap.size) (s : A ∧ B ∧ Sx wr N cv cs X) (hb : Disk.SR X bv bs) (hl : bs.length ≤ 31) :
    Calls Tryz.prog 8 #[.agg #[u1, u2], bv] X fun x w' => ∃ (a1 : Option Addr) (n1 c1 : Nat) (a2 : Option Addr) (n2 c2 : Nat) (ok : Bool) (ss' : List ByteArray) (ws' : List Disk.Wr), x = .returned (.tuple #[.agg #[.slice a1 n1 c1, .slice a2 n2 c2], .bool ok]) ∧ Sx wr N cv cs w' ∧ Disk.NS X.heap.size w' (.slice a1 n1 c1) ss' ∧ Disk.NO X.heap.size w' (.slice a2 n2 c2) ws' ∧ (ok = true → (ss'.length = 64 ∧ n1 ≤ c1 ∧ ∀ s ∈ ss', s.size ≤ 257) ∧ ∀ m, OkL m ss → OkL (m + 1) ss') ∧ ws'.length ≤ 201 ∧ Below X.heap.size X w' := by
  have H := h.step hN s.2.2.1 s.2.2.2
  have := h.l1
  have := h.l2
  refine (specCommit_no u1 u2 bv ss ws bs X H.ns.2.1 H.nw.2.1 (by omega) (by omega) hb (by omega)).mono ?_
  rintro x w' ⟨x1, x2, rfl, hn, hno, hb', hcp⟩
  obtain ⟨a1, n1, c1, rfl⟩ := hn.s1
  obtain ⟨a2, n2, c2, rfl⟩ := hn.s2
  have g : X.grownBy w' (some N) := ⟨hb'.os, hb'.tape, hb'.output, hb'.size, fun k hk _ => hb'.block k hk⟩
  exact ⟨a1, n1, c1, a2, n2, c2, _, _, [], rfl, ⟨gtrans s.2.2.1 g, s.2.2.2.later hb' (by have := h.gr.size; have := s.2.2.1.size; omega)⟩, ⟨hn.1, hn.2.2.1, hn.2.2.2.2.1⟩, hno, fun hk => ⟨⟨by rw [commitS_yes hk, doneS_length, okD_len64 (scrOk_parts hk).1], hcp.le, by rw [commitS_yes hk]; exact fit_okD (okD_done (us := []) (scrOk_parts hk).1 (by simp) (fun x hx => by cases hx) (scrW_okW ss bs (scrOk_parts hk).2.1))⟩, fun _ k => okL_commit hk k⟩, by simp, hb'⟩

theorem belowK {w wr X : World} {N D : Nat} {cv : Value} {cs : List UInt8} {u1 u2 : Value} {ss : List ByteArray} {ws : List Disk.Wr} {A B : Prop} (_ : Dd w N cv cs D wr u1 u2 ss ws) (s : A ∧ B ∧ Sx wr N cv cs X) (n : Int) (h0 : 0 < n) (h1 : n ≤ 256) :
    Calls Tryz.prog 33 #[.pointer (some ⟨N, 0, none⟩), .int .i64 n] X fun x w' => ∃ z : Nat, x = .returned (.int .i64 z) ∧ (z : Int) < n ∧ Sx wr N cv cs w' ∧ X.grownBy w' (some N) := by
  refine (Dw.below s.2.2.2 n h0 h1).mono ?_
  rintro x w' ⟨⟨z, rfl, z0, z1⟩, g, d⟩
  obtain ⟨zn, rfl⟩ := Int.eq_ofNat_of_zero_le z0
  exact ⟨zn, rfl, z1, ⟨gtrans s.2.2.1 g, d⟩, g⟩
theorem textK {w wr X : World} {N D : Nat} {cv : Value} {cs : List UInt8} {u1 u2 : Value} {ss : List ByteArray} {ws : List Disk.Wr} {A B : Prop} (h : Dd w N cv cs D wr u1 u2 ss ws) (hN : N < w.heap.size) (s : A ∧ B ∧ Sx wr N cv cs X) :
    Calls Tryz.prog 71 #[.pointer (some ⟨N, 0, none⟩)] X fun x w' => ∃ t : ByteArray, x = .returned (.string t) ∧ t.size ≤ 257 ∧ Sx wr N cv cs w' ∧ X.grownBy w' (some N) := by
  refine (Dw.text s.2.2.2 (by have := h.gr.size; have := s.2.2.1.size; omega)).mono ?_
  rintro x w' ⟨⟨t, rfl, ht⟩, g, d⟩
  exact ⟨t, rfl, ht, ⟨gtrans s.2.2.1 g, d⟩, g⟩
theorem putK {w wr X : World} {N D : Nat} {cv : Value} {cs : List UInt8} {u1 u2 : Value} {ss : List ByteArray} {ws : List Disk.Wr} {A B : Prop} (h : Dd w N cv cs D wr u1 u2 ss ws) (hN : N < w.heap.size) (s : A ∧ B ∧ Sx wr N cv cs X) (sec : Int) (t : ByteArray) :
    Calls Tryz.prog 70 #[.agg #[u1, u2], .int .i64 sec, .string t] X fun x w' => ∃ (a1 : Option Addr) (n1 c1 : Nat) (a2 : Option Addr) (n2 c2 : Nat) (ok : Bool) (ss' : List ByteArray) (ws' : List Disk.Wr), x = .returned (.tuple #[.agg #[.slice a1 n1 c1, .slice a2 n2 c2], .bool ok]) ∧ Sx wr N cv cs w' ∧ Disk.NS X.heap.size w' (.slice a1 n1 c1) ss' ∧ Disk.NO X.heap.size w' (.slice a2 n2 c2) ws' ∧ (ok = true → (ss'.length = 64 ∧ n1 ≤ c1 ∧ ∀ s ∈ ss', s.size ≤ 257) ∧ ss' = ss) ∧ ws'.length ≤ 201 ∧ Below X.heap.size X w' := by
  have H := h.step hN s.2.2.1 s.2.2.2
  have h1 := h.l1
  have h2 := h.l2
  refine (Disk.specPut_no u1 u2 ss ws sec t X H.ns.2.1 H.nw.2.1 (by omega) (by omega)).mono ?_
  rintro x w' ⟨x1, x2, rfl, hn, hno, hb', hcp⟩
  obtain ⟨a1, n1, c1, rfl⟩ := hn.s1
  obtain ⟨a2, n2, c2, rfl⟩ := hn.s2
  have g : X.grownBy w' (some N) := ⟨hb'.os, hb'.tape, hb'.output, hb'.size, fun k hk _ => hb'.block k hk⟩
  refine ⟨a1, n1, c1, a2, n2, c2, _, _, _, rfl, ⟨gtrans s.2.2.1 g, s.2.2.2.later hb' (by have := h.gr.size; have := s.2.2.1.size; omega)⟩, ⟨hn.1, hn.2.2.1, hn.2.2.2.2.1⟩, hno, fun hk => ⟨⟨by unfold Disk.putS; rw [if_pos hk]; exact h1, hcp.le, by unfold Disk.putS; rw [if_pos hk]; exact h.sz⟩, by unfold Disk.putS; rw [if_pos hk]⟩, ?_, hb'⟩
  unfold Disk.putW
  split
  · rename_i hk
    unfold Disk.putOk at hk
    rw [Bool.and_eq_true, Bool.and_eq_true] at hk
    have := (Disk.okD_all hk.1.1).2.1
    rw [List.length_append]
    show ws.length + 1 ≤ 201
    omega
  · exact Nat.zero_le _

theorem br_off {w W W' : World} {b : Nat} {cv : Value} {cs : List UInt8} (hw : BR w cv cs) (h : BR W cv cs) (hb : w.heap.size ≤ b) (k : W.grownBy W' (some b)) : BR W' cv cs := by
  obtain ⟨ao, cap, rfl, hle, hc⟩ := h
  refine ⟨ao, cap, rfl, hle, fun i hi => ?_⟩
  obtain ⟨b', o, rfl, hci⟩ := hc i hi
  refine ⟨b', o, rfl, k.cell hci (fun e => ?_)⟩
  have e2 : b' = b := Option.some.inj e
  obtain ⟨_, _, e3, _, hcc⟩ := hw
  obtain ⟨b2, o2, e4, hx⟩ := hcc i hi
  simp at e3
  obtain ⟨rfl, _⟩ := e3
  simp at e4
  have := World.block_lt_of_cell? _ _ hx
  simp at this
  omega
/-- A text goes into a sector of the disk under way. -/
theorem Dd.store {w W : World} {N D rb n cap i : Nat} {cv : Value} {cs : List UInt8} {u2 : Value} {ss : List ByteArray} {ws : List Disk.Wr} (h : Dd w N cv cs D W (.slice (some ⟨rb, 0, none⟩) n cap) u2 ss ws) (hbr : BR w cv cs) (hN : N < w.heap.size) (hi : i < ss.length) (t : ByteArray) (ht : t.size ≤ 257) :
    Dd w N cv cs D (W.setCell ⟨rb, i, none⟩ (.string t)) (.slice (some ⟨rb, 0, none⟩) n cap) u2 (ss.set i t) ws := by
  have hlo := h.lo
  have hsz := h.gr.size
  obtain ⟨ao, cp, e, hh⟩ := id h.ns.1
  cases e
  obtain ⟨M, f, hM, hf⟩ : ∃ M f, ss.length * 1 ≤ M ∧ W.rowIs rb 9 M f := by
    rcases hh with hh | ⟨b, M, f, e, hM, hf⟩
    · omega
    · cases e
      exact ⟨M, f, hM, hf⟩
  have hrow : Disk.rowOf (.slice (some ⟨rb, 0, none⟩) ss.length cap) ss.length = some rb := by rw [Disk.rowOf, if_neg (by omega)]; rfl
  have hrb := h.ns.2.2 rb hrow
  have hne := os_sep h.ns.1 h.bx (by decide) rb hrow
  have k : W.grownBy (W.setCell ⟨rb, i, none⟩ (.string t)) (some rb) := gset1 W rb i (.string t)
  have g : w.grownBy (W.setCell ⟨rb, i, none⟩ (.string t)) (some N) := gmix h.gr k (fun e he => by have := Option.some.inj he; omega)
  obtain ⟨c, hc, _⟩ := id hf
  exact ⟨⟨br_off hbr h.dw.br hrb k, h.dw.len, h.dw.dr.grown k (fun e => by have := Option.some.inj e; omega) (by omega), h.dw.off⟩, g, h.bx.grown k (fun e => hne (Option.some.inj e).symm), h.lo, h.rs.grown k (fun e => os_sep h.ns.1 h.rs (by decide) rb hrow (Option.some.inj e).symm), Disk.NS.put t h.ns hi, no_sep h.no k hc (by decide), by rw [List.length_set]; exact h.l1, h.l2, h.cp, fun s hs => (List.mem_or_eq_of_mem_set hs).elim (h.sz s) (fun e => e ▸ ht)⟩

theorem Dd.sector {w W : World} {N D rb n cap i : Nat} {cv : Value} {cs : List UInt8} {u2 : Value} {ss : List ByteArray} {ws : List Disk.Wr} {C : Prop} (h : Dd w N cv cs D W (.slice (some ⟨rb, 0, none⟩) n cap) u2 ss ws) (hi : i < 64)
    (k : ∀ s, W.cell? ⟨rb, i, none⟩ = some (.string s) → W.frozen? ⟨rb, i, none⟩ = false → C) : C := by
  have h64 := h.l1
  obtain ⟨b, cp, e, _, _, hc, hf⟩ := h.ns.form (by omega)
  cases e
  exact k _ (hc i (by omega)) (hf i)

theorem belowN {w X : World} {N D : Nat} {cv : Value} {cs : List UInt8} {u1 u2 : Value} {ss : List ByteArray} {ws : List Disk.Wr} (h : Dd w N cv cs D X u1 u2 ss ws) (n : Int) (h0 : 0 < n) (h1 : n ≤ 256) :
    Calls Tryz.prog 33 #[.pointer (some ⟨N, 0, none⟩), .int .i64 n] X fun x w' => ∃ z : Nat, x = .returned (.int .i64 z) ∧ (z : Int) < n ∧ X.grownBy w' (some N) ∧ Dw N cv cs w' := by
  refine (Dw.below h.dw n h0 h1).mono ?_
  rintro x w' ⟨⟨z, rfl, z0, z1⟩, g, d⟩
  obtain ⟨zn, rfl⟩ := Int.eq_ofNat_of_zero_le z0
  exact ⟨zn, rfl, z1, g, d⟩

/-- A disk goes into the result. -/
theorem Dd.ret {w W : World} {N D : Nat} {cv : Value} {cs : List UInt8} {u1 u2 : Value} {ss : List ByteArray} {ws : List Disk.Wr} (h : Dd w N cv cs D W u1 u2 ss ws) (hbr : BR w cv cs) (hN : N < w.heap.size) :
    Disk.NS w.heap.size ((W.setCell ⟨w.heap.size, 0, none⟩ u1).setCell ⟨w.heap.size, 1, none⟩ u2) u1 ss ∧ Disk.NO w.heap.size ((W.setCell ⟨w.heap.size, 0, none⟩ u1).setCell ⟨w.heap.size, 1, none⟩ u2) u2 ws ∧ w.grownBy ((W.setCell ⟨w.heap.size, 0, none⟩ u1).setCell ⟨w.heap.size, 1, none⟩ u2) (some N) ∧ Dw N cv cs ((W.setCell ⟨w.heap.size, 0, none⟩ u1).setCell ⟨w.heap.size, 1, none⟩ u2) ∧ Bx ((W.setCell ⟨w.heap.size, 0, none⟩ u1).setCell ⟨w.heap.size, 1, none⟩ u2) w.heap.size u1 u2 := by
  have k : W.grownBy ((W.setCell ⟨w.heap.size, 0, none⟩ u1).setCell ⟨w.heap.size, 1, none⟩ u2) (some w.heap.size) := gset (gset1 W w.heap.size 0 u1) 1 u2
  have hsz := h.gr.size
  have g : w.grownBy ((W.setCell ⟨w.heap.size, 0, none⟩ u1).setCell ⟨w.heap.size, 1, none⟩ u2) (some N) := gmix h.gr k (fun e he => by have := Option.some.inj he; omega)
  exact ⟨ns_sep h.ns k (os_sep h.ns.1 h.rs (by decide)), no_sep h.no k h.rs (by decide), g, ⟨br_off hbr h.dw.br (Nat.le_refl _) k, h.dw.len, h.dw.dr.grown k (fun e => by have := Option.some.inj e; omega) (by omega), h.dw.off⟩, h.rs.set u1 u2⟩

end Go.Proofs.YtjclpbaiiklhcaaGreatDoor

/- Lists and disks that are alike, by the laws' own functions. -/
namespace Go.Proofs.YtjclpbaiiklhcaaGreatDoor
open Go.RowKit

set_option maxHeartbeats 400000 in
theorem likeTexts_same (v u : Value) (ss : List ByteArray) (w : World) (hv : Disk.SR w v ss) (hu : Disk.SR w u ss) (h1 : ss.length ≤ 1000000000000000) :
    Calls Tryz.prog 15 #[v, u] w fun e w' => e = .returned (.bool true) ∧ Below w.heap.size w w' := by
  obtain ⟨ao, cap, rfl, hv⟩ := hv
  obtain ⟨bo, cbp, rfl, hu⟩ := hu
  have hl' : ((ss.length : Int) != (ss.length : Int)) = false := by simp
  go_enter Tryz.func15, Tryz.ntmps15
  go_wp2
  go_loopw [5] (fun a wr => ∃ (k : Nat), a = .int .i64 k ∧ k ≤ ss.length ∧ ∃ n, wr = w.drewN n) (fun a _ => (ss.length - (intOf a).toNat))
  case atStart => exact ⟨0, rfl, Nat.zero_le _, 0, rfl⟩
  case round =>
    obtain ⟨k, rfl, hk, n, rfl⟩ := hrel
    by_cases hlt : k < ss.length
    · obtain ⟨b, o, rfl, hc⟩ := hv k hlt
      obtain ⟨b', o', rfl, hc'⟩ := hu k hlt
      generalize ss.getD k ByteArray.empty = s at *
      clear hv hu
      go_wp2
      go_region
      all_goals go_wp2
      go_roundw
      case rel => exact ⟨k + 1, by go_num, by omega, _, rfl⟩
      case measure => simp [intOf]; omega
    · go_wp2
      go_ret
      exact ⟨rfl, below_drewN (Below.refl _ _) _⟩

set_option maxHeartbeats 400000 in
theorem likeWrites_same (v u : Value) (ss : List Disk.Wr) (w : World) (hv : Disk.WR w v ss) (hu : Disk.WR w u ss) (h1 : ss.length ≤ 1000000000000000) :
    Calls Tryz.prog 11 #[v, u] w fun e w' => e = .returned (.bool true) ∧ Below w.heap.size w w' := by
  obtain ⟨ao, cap, rfl, hv⟩ := hv
  obtain ⟨bo, cbp, rfl, hu⟩ := hu
  have hl' : ((ss.length : Int) != (ss.length : Int)) = false := by simp
  go_enter Tryz.func11, Tryz.ntmps11
  go_wp2
  go_loopw [5] (fun a wr => ∃ (k : Nat), a = .int .i64 k ∧ k ≤ ss.length ∧ ∃ n, wr = w.drewN n) (fun a _ => (ss.length - (intOf a).toNat))
  case atStart => exact ⟨0, rfl, Nat.zero_le _, 0, rfl⟩
  case round =>
    obtain ⟨k, rfl, hk, n, rfl⟩ := hrel
    by_cases hlt : k < ss.length
    · obtain ⟨b, o, rfl, hc, hd⟩ := hv k hlt
      obtain ⟨b', o', rfl, hc', hd'⟩ := hu k hlt
      generalize (ss.getD k Disk.wr0).1 = s at *
      generalize (ss.getD k Disk.wr0).2 = t at *
      clear hv hu
      go_wp2
      go_region
      all_goals go_wp2
      go_roundw
      case rel => exact ⟨k + 1, by go_num, by omega, _, rfl⟩
      case measure => simp [intOf]; omega
    · go_wp2
      go_ret
      exact ⟨rfl, below_drewN (Below.refl _ _) _⟩

set_option maxHeartbeats 400000 in
theorem likeDisk_same (v1 v2 u1 u2 : Value) (ss : List ByteArray) (ws : List Disk.Wr) (w : World) (hv : Disk.SR w v1 ss) (hu : Disk.SR w u1 ss) (hv2 : Disk.WR w v2 ws) (hu2 : Disk.WR w u2 ws) (h1 : ss.length ≤ 1000000000000000) (h2 : ws.length ≤ 1000000000000000) :
    Calls Tryz.prog 9 #[.agg #[v1, v2], .agg #[u1, u2]] w fun e w' => e = .returned (.bool true) ∧ Below w.heap.size w w' := by
  obtain ⟨a1, k1, rfl, hv⟩ := hv
  obtain ⟨a2, k2, rfl, hu⟩ := hu
  obtain ⟨a3, k3, rfl, hv2⟩ := hv2
  obtain ⟨a4, k4, rfl, hu2⟩ := hu2
  have LT := fun W (hb : Below w.heap.size w W) => likeTexts_same (.slice a1 ss.length k1) (.slice a2 ss.length k2) ss W (Disk.SR.later ⟨a1, k1, rfl, hv⟩ hb) (Disk.SR.later ⟨a2, k2, rfl, hu⟩ hb) h1
  have LW := fun W (hb : Below w.heap.size w W) => likeWrites_same (.slice a3 ws.length k3) (.slice a4 ws.length k4) ws W (Disk.WR.later ⟨a3, k3, rfl, hv2⟩ hb) (Disk.WR.later ⟨a4, k4, rfl, hu2⟩ hb) h2
  clear hv hu hv2 hu2
  go_enter Tryz.func9, Tryz.ntmps9
  go_wp2_with fail
  have hb0 := Disk.bel_two w (.cells #[.slice a1 ss.length k1, .slice a3 ws.length k3] 27) (.cells #[.slice a2 ss.length k2, .slice a4 ws.length k4] 27)
  have bA := (Bx.new w (.slice a1 ss.length k1) (.slice a3 ws.length k3)).later (Disk.bel_one _ (.cells #[.slice a2 ss.length k2, .slice a4 ws.length k4] 27))
  have bB := Bx.new (w.alloc (.cells #[.slice a1 ss.length k1, .slice a3 ws.length k3] 27)) (.slice a2 ss.length k2) (.slice a4 ws.length k4)
  refine (LT _ hb0).mono ?_
  rintro x w3 ⟨rfl, hb3⟩
  have y1 := (bA.later hb3).c1
  have y2 : w3.cell? ⟨w.heap.size + 1, 1, none⟩ = some (.slice a4 ws.length k4) := by simpa using (bB.later hb3).c1
  have hb4 := bel_after hb0 hb3
  have LW3 := LW w3 hb4
  clear LT LW bA bB
  go_wp2_with fail
  refine LW3.mono ?_
  rintro x w5 ⟨rfl, hb5⟩
  go_wp2
  go_ret
  exact ⟨rfl, bel_after hb4 hb5⟩

end Go.Proofs.YtjclpbaiiklhcaaGreatDoor
