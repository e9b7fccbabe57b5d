/- Hold of the model: the late writes are done in order. -/
import Derived.Test.YtjclpbaiiklhcaaGreatDoorZV5
namespace Go.Proofs.YtjclpbaiiklhcaaGreatDoor.Disk
open Go.RowKit Go.Deep

def stepH (ss : List ByteArray) (x : Wr) : List ByteArray := ss.set x.1.toNat x.2
def holdN (ss : List ByteArray) (ws : List Wr) (j : Nat) : List ByteArray := (ws.take j).foldl stepH ss
def holdS (ss : List ByteArray) (ws : List Wr) : List ByteArray := if okD ss ws = true then holdN ss ws ws.length else []

theorem stepH_length (ss : List ByteArray) (x : Wr) : (stepH ss x).length = ss.length := by simp [stepH]
theorem foldH_length (ws : List Wr) : ∀ ss : List ByteArray, (ws.foldl stepH ss).length = ss.length := by
  induction ws with
  | nil => intro ss; rfl
  | cons x r ih => intro ss; rw [List.foldl_cons, ih, stepH_length]
theorem holdN_length (ss : List ByteArray) (ws : List Wr) (j : Nat) : (holdN ss ws j).length = ss.length := foldH_length _ _
theorem holdN_zero (ss : List ByteArray) (ws : List Wr) : holdN ss ws 0 = ss := by simp [holdN]
theorem holdN_succ (ss : List ByteArray) (ws : List Wr) (j : Nat) (h : j < ws.length) : holdN ss ws (j + 1) = stepH (holdN ss ws j) (ws.getD j wr0) := by
  unfold holdN
  rw [List.take_succ_eq_append_getElem h, List.foldl_append]
  simp [h]

theorem okD_all {ss : List ByteArray} {ws : List Wr} (h : okD ss ws = true) : ss.length = 64 ∧ ws.length ≤ 200 ∧ (∀ k, k < ss.length → (ss.getD k ByteArray.empty).size ≤ 256) ∧ ∀ k, k < ws.length → okW (ws.getD k wr0) = true := by
  unfold okD at h
  simp only [Bool.and_eq_true, decide_eq_true_eq, List.all_eq_true] at h
  obtain ⟨⟨⟨h1, h2⟩, h3⟩, h4⟩ := h
  refine ⟨h1, h2, fun k hk => ?_, fun k hk => ?_⟩
  · have := h3 ss[k] (List.getElem_mem hk)
    rw [List.getD_eq_getElem?_getD, List.getElem?_eq_getElem hk]
    simpa [okS] using this
  · have := h4 ws[k] (List.getElem_mem hk)
    rw [List.getD_eq_getElem?_getD, List.getElem?_eq_getElem hk]
    exact this

theorem okW_range {x : Wr} (h : okW x = true) : 0 ≤ x.1 ∧ x.1 ≤ 63 ∧ x.2.size ≤ 256 := by simpa [okW] using h

/-- A text stored into a row of texts. -/
theorem NS.put {B : Nat} {w : World} {b n cap k : Nat} {ss : List ByteArray} (t : ByteArray) (h : NS B w (.slice (some ⟨b, 0, none⟩) n cap) ss) (hk : k < ss.length) :
    NS B (w.setCell ⟨b, k, none⟩ (.string t)) (.slice (some ⟨b, 0, none⟩) n cap) (ss.set k t) := by
  obtain ⟨⟨ao, cp, e, ho⟩, ⟨ao', cp', e', hs⟩, hB⟩ := h
  simp only [Value.slice.injEq] at e e'
  obtain ⟨rfl, rfl, rfl⟩ := e
  obtain ⟨rfl, _, rfl⟩ := e'
  have hl : (ss.set k t).length = ss.length := by simp
  obtain ⟨b', N, f, eb, hN, hr⟩ := ho.resolve_left (by omega)
  simp only [Option.some.injEq, Addr.mk.injEq, and_true] at eb
  obtain rfl := eb
  refine ⟨⟨_, _, by rw [hl], .inr ⟨b, N, _, rfl, by rw [hl]; exact hN, hr.set k _⟩⟩, ⟨_, _, by rw [hl], fun i hi => ⟨b, 0, rfl, ?_⟩⟩, by rw [hl]; exact hB⟩
  rw [hl] at hi
  rw [Nat.zero_add]
  obtain ⟨b1, o1, e1, hc⟩ := hs i hi
  simp only [Option.some.injEq, Addr.mk.injEq, and_true] at e1
  obtain ⟨rfl, rfl⟩ := e1
  rw [Nat.zero_add] at hc
  by_cases hik : i = k
  · subst hik
    rw [World.cell?_setCell_same _ _ _ hc]
    simp [hi]
  · rw [World.cell?_setCell_other _ _ _ _ (by simp), hc]
    simp [List.getD_eq_getElem?_getD, Ne.symm hik]

/-- The block, a cell and its mark of a row of texts that is not empty. -/
theorem NS.form {B : Nat} {w : World} {v : Value} {ss : List ByteArray} (h : NS B w v ss) (hn : 0 < ss.length) : ∃ b cap, v = .slice (some ⟨b, 0, none⟩) ss.length cap ∧ B ≤ b ∧ b < w.heap.size ∧ (∀ k, k < ss.length → w.cell? ⟨b, k, none⟩ = some (.string (ss.getD k ByteArray.empty))) ∧ ∀ k, w.frozen? ⟨b, k, none⟩ = false := by
  obtain ⟨⟨ao, cp, rfl, ho⟩, ⟨ao', cp', e', hs⟩, hB⟩ := h
  obtain ⟨b, N, f, rfl, hN, hr⟩ := ho.resolve_left (by omega)
  simp only [Value.slice.injEq] at e'
  obtain ⟨rfl, _, rfl⟩ := e'
  refine ⟨b, cp, rfl, hB b (by rw [rowOf, if_neg (by omega)]; rfl), hr.lt, fun k hk => ?_, fun k => hr.frozen k⟩
  obtain ⟨b1, o1, e1, hc⟩ := hs k hk
  simp only [Option.some.injEq, Addr.mk.injEq, and_true] at e1
  obtain ⟨rfl, rfl⟩ := e1
  rwa [Nat.zero_add] at hc

theorem nd_zero (B : Nat) (w : World) : ND B w (.slice none 0 0) (.slice none 0 0) [] [] :=
  ⟨⟨_, _, rfl, .inl rfl⟩, ⟨_, _, rfl, .inl rfl⟩, ⟨_, _, rfl, fun i hi => by simp at hi⟩, ⟨_, _, rfl, fun i hi => by simp at hi⟩, fun b e => by simp [rowOf] at e, fun b e => by simp [rowOf] at e⟩

theorem cell_put {w : World} {b k b' o' : Nat} {u v : Value} (hne : b' ≠ b) (h : w.cell? ⟨b', o', none⟩ = some v) : (w.setCell ⟨b, k, none⟩ u).cell? ⟨b', o', none⟩ = some v :=
  (grown_set w b k u).cell h (by simp only [ne_eq, Option.some.injEq]; exact hne)

theorem NS.aside {B : Nat} {w : World} {b n cap c o : Nat} {ss : List ByteArray} (u : Value) (h : NS B w (.slice (some ⟨b, 0, none⟩) n cap) ss) (hne : b ≠ c) : NS B (w.setCell ⟨c, o, none⟩ u) (.slice (some ⟨b, 0, none⟩) n cap) ss := by
  have he : (Value.slice (some ⟨b, 0, none⟩) n cap).ownBlock ≠ some c := by simp [Value.ownBlock, hne]
  exact ⟨h.1.grown (grown_set w c o u) (.inr he), h.2.1.grown (grown_set w c o u) (.inr he), h.2.2⟩

theorem nw_empty (B : Nat) (w : World) (ao : Option Addr) (cap : Nat) : NW B w (.slice ao 0 cap) [] :=
  ⟨⟨_, _, rfl, .inl rfl⟩, ⟨_, _, rfl, fun i hi => by simp at hi⟩, fun b e => by simp [rowOf] at e⟩

theorem Res.put {R : Nat} {w : World} {b k : Nat} {u : Value} (h : Res R w) (hne : R ≠ b) : Res R (w.setCell ⟨b, k, none⟩ u) :=
  ⟨cell_put hne h.1, cell_put hne h.2.1, by rw [World.frozen?_setCell]; exact h.2.2.1, by rw [World.frozen?_setCell]; exact h.2.2.2.1, by simpa using h.2.2.2.2⟩

set_option maxRecDepth 100000 in
set_option maxHeartbeats 1600000 in
theorem specHold_any (v1 v2 : Value) (ss : List ByteArray) (ws : List Wr) (w : World) (hv1 : SR w v1 ss) (hv2 : WR w v2 ws) (h1 : ss.length ≤ 10000000000000) (h2 : ws.length ≤ 10000000000000) :
    Calls Tryz.prog 40 #[.agg #[v1, v2]] w fun e w' => ∃ u1 u2, e = .returned (.agg #[u1, u2]) ∧ ND w.heap.size w' u1 u2 (holdS ss ws) [] ∧ Below w.heap.size w w' := by
  have hb0 := bel_two w (.cells #[v1, v2] 27) (.cells #[.slice none 0 0, .slice none 0 0] 27)
  go_enter Tryz.func40, Tryz.ntmps40
  go_wp2_with (fail)
  refine (specDiskOk_any _ _ ss ws _ (hv1.later hb0) (hv2.later hb0) h1 h2).mono ?_
  rintro e w1 ⟨rfl, hb1⟩
  have hbw1 : Below w.heap.size w w1 := hb0.trans (hb1.mono (by simp; omega))
  have r1 : Res (w.heap.size + 1) w1 := Res.later ⟨cell_new _ _ 27 _ (by simp) 0 _ rfl, cell_new _ _ 27 _ (by simp) 1 _ rfl, frozen_new _ _ 27 _ (by simp) 0, frozen_new _ _ 27 _ (by simp) 1, by simp⟩ hb1
  have c0 : w1.cell? ⟨w.heap.size, 0, none⟩ = some v1 := cell_later hb1 (cell_later (bel_one _ _) (cell_new w #[v1, v2] 27 _ rfl 0 _ rfl))
  have c1 : w1.cell? ⟨w.heap.size, 1, none⟩ = some v2 := cell_later hb1 (cell_later (bel_one _ _) (cell_new w #[v1, v2] 27 _ rfl 1 _ rfl))
  cases hok : okD ss ws
  · have HK : Hid (okD ss ws = false) := hok
    clear hok
    have q0 := r1.1
    have q1 := r1.2.1
    have f0 := r1.2.2.1
    have f1 := r1.2.2.2.1
    have e5 := (hbw1.setCell (p := ⟨w.heap.size + 1, 0, none⟩) (by simp) (.slice none 0 0)).setCell (p := ⟨w.heap.size + 1, 1, none⟩) (by simp) (.slice none 0 0)
    have e6 : holdS ss ws = [] := by unfold holdS; rw [if_neg (by rw [HK.out]; simp)]
    have E6 : Hid (holdS ss ws = []) := e6
    clear e6
    go_wp2
    exact bodyPost_ret (v := .agg #[.slice none 0 0, .slice none 0 0]) (by simp [results, Tryz.results40, go_sem, q0, q1]) rfl ⟨_, _, rfl, by rw [E6.out]; exact nd_zero _ _, e5⟩
  · have HK : Hid (okD ss ws = true) := hok
    clear hok
    obtain ⟨l64, l200, _, hall⟩ := okD_all HK.out
    have e6 : holdS ss ws = holdN ss ws ws.length := by unfold holdS; rw [if_pos HK.out]
    have E6 : Hid (holdS ss ws = holdN ss ws ws.length) := e6
    clear e6
    have HALL : Hid (∀ k, k < ws.length → okW (ws.getD k wr0) = true) := hall
    have H64 : Hid (ss.length = 64) := l64
    have n64 : (64 : Int) ≤ (ss.length : Int) := by omega
    have n0 : 0 < ss.length := by omega
    clear hall l64
    go_wp2_with (fail)
    refine (specCopy_any _ _ ss ws _ (hv1.later hbw1) (hv2.later hbw1) (by have := H64.out; omega) (by omega)).mono ?_
    rintro e w2 ⟨u1, u2, rfl, hN2, hb2⟩
    have hS2 : NS w1.heap.size w2 u1 ss := ⟨hN2.1, hN2.2.2.1, hN2.2.2.2.2.1⟩
    obtain ⟨b, cap, rfl, hbb, hbz, _, _⟩ := hS2.form n0
    obtain ⟨bo, bn, bc, rfl⟩ := hN2.s2
    have hbw2 := bel_then hbw1 hbw1.size hb2
    have r2 := r1.later hb2
    have d1 := cell_later hb2 c1
    have hz : w.heap.size < w2.heap.size := World.block_lt_of_cell? _ _ d1
    have hz1 : w.heap.size + 1 < w2.heap.size := r2.2.2.2.2
    have hz2 : w.heap.size + 1 < w1.heap.size := r1.2.2.2.2
    clear c0 c1 hb1 r1
    go_wp2
    go_loopw [4] (fun i wr => ∃ (j : Nat), j ≤ ws.length ∧ i = .int .i64 j ∧ NS w1.heap.size wr (.slice (some ⟨b, 0, none⟩) ss.length cap) (holdN ss ws j) ∧ Res (w.heap.size + 1) wr ∧ wr.cell? ⟨w.heap.size, 1, none⟩ = some v2 ∧ wr.cell? ⟨w2.heap.size, 0, none⟩ = some (.slice (some ⟨b, 0, none⟩) ss.length cap) ∧ wr.cell? ⟨w2.heap.size, 1, none⟩ = some (.slice bo bn bc) ∧ wr.frozen? ⟨w2.heap.size, 1, none⟩ = false ∧ w2.heap.size < wr.heap.size ∧ Below w.heap.size w wr) (fun i _ => ws.length - (intOf i).toNat)
    case atStart =>
      exact ⟨0, Nat.zero_le _, rfl, by rw [holdN_zero]; exact hS2.al _, r2.al _, cell_later (bel_one _ _) d1, cell_new w2 _ 27 _ rfl 0 _ rfl, cell_new w2 _ 27 _ rfl 1 _ rfl, frozen_new w2 _ 27 _ rfl 1, by simp, hbw2.alloc hbw2.size _⟩
    case round =>
      obtain ⟨j, hj, rfl, hN, r, k1, k2, k3, k4, hzr, hb⟩ := hrel
      by_cases hlt : j < ws.length
      · have hW := hv2.later hb
        obtain ⟨co, cc, rfl, hu⟩ := hW
        obtain ⟨b', o', rfl, m1, m2⟩ := hu j hlt
        have hrange := okW_range (HALL.out j hlt)
        have hsucc := holdN_succ ss ws j hlt
        generalize hs : ws.getD j wr0 = s at *
        obtain ⟨s1, s2⟩ := s
        obtain ⟨x0, x63, _⟩ := hrange
        obtain ⟨k, rfl⟩ := Int.eq_ofNat_of_zero_le x0
        have HS : Hid (holdN ss ws (j + 1) = (holdN ss ws j).set k s2) := hsucc
        have hkn : k < ss.length := by omega
        have hlen : (holdN ss ws j).length = ss.length := holdN_length ss ws j
        obtain ⟨b2, cap2, e2, _, _, hcell, hfrz⟩ := hN.form (by omega)
        simp only [Value.slice.injEq, Option.some.injEq, Addr.mk.injEq, and_true] at e2
        obtain ⟨rfl, enn, rfl⟩ := e2
        clear enn
        have t1 := hcell k (by omega)
        have t2 := hfrz k
        generalize (holdN ss ws j).getD k ByteArray.empty = old at *
        clear hs hsucc hu hcell hfrz
        have R := hN.put s2 (k := k) (by omega)
        have R2 := (r.put (b := b) (k := k) (u := .string s2) (by omega)).dr
        have K1 := cell_put (b := b) (k := k) (u := .string s2) (by omega) k1
        have K2 := cell_put (b := b) (k := k) (u := .string s2) (by omega) k2
        have K3 := cell_put (b := b) (k := k) (u := .string s2) (by omega) k3
        have G := (hb.setCell (p := ⟨b, k, none⟩) (by simp; omega) (.string s2)).drew
        rw [← HS.out] at R
        clear hlen hS2 hN2 hbw2 r2 d1 hb2 hb0 hv1 hv2 hN
        go_wp2
        go_region
        all_goals go_wp2
        all_goals go_roundw
        case rel => exact ⟨j + 1, by omega, by go_num, R.dr, R2, K1, K2, K3, by simpa using k4, by simpa using hzr, G⟩
        case measure => simp [intOf]; omega
      · obtain rfl : j = ws.length := by omega
        obtain ⟨co, cc, rfl, _⟩ := hv2.later hb
        have q0 := r.1
        have q1 := r.2.1
        have f0 := r.2.2.1
        have f1 := r.2.2.2.1
        have zr : w.heap.size + 1 < wr.heap.size := r.2.2.2.2
        clear hS2 hN2 hbw2 r2 d1 hb2 hb0 hv1 hv2 r
        have P1 := (((hN.aside (c := w2.heap.size) (o := 1) (.slice (some ⟨wr.heap.size, 0, none⟩) 0 0) (by omega)).aside (c := w.heap.size + 1) (o := 0) (.slice (some ⟨b, 0, none⟩) ss.length cap) (by omega)).aside (c := w.heap.size + 1) (o := 1) (.slice (some ⟨wr.heap.size, 0, none⟩) 0 0) (by omega)).al (.cells #[] 48)
        have P2 := (((hb.setCell (p := ⟨w2.heap.size, 1, none⟩) (by simp; omega) (.slice (some ⟨wr.heap.size, 0, none⟩) 0 0)).setCell (p := ⟨w.heap.size + 1, 0, none⟩) (by simp) (.slice (some ⟨b, 0, none⟩) ss.length cap)).setCell (p := ⟨w.heap.size + 1, 1, none⟩) (by simp) (.slice (some ⟨wr.heap.size, 0, none⟩) 0 0)).alloc (by simp; omega) (.cells #[] 48)
        go_wp2
        exact bodyPost_ret (v := .agg #[.slice (some ⟨b, 0, none⟩) ss.length cap, .slice (some ⟨wr.heap.size, 0, none⟩) 0 0]) (by simp [results, Tryz.results40, go_sem, q0, q1, zr]) rfl ⟨_, _, rfl, by rw [E6.out]; exact ND_of (P1.mono (by omega)) (nw_empty _ _ _ _), P2⟩

end Go.Proofs.YtjclpbaiiklhcaaGreatDoor.Disk
