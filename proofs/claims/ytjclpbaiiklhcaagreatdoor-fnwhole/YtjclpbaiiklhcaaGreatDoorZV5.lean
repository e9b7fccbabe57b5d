import Derived.Test.YtjclpbaiiklhcaaGreatDoorZV4
import Derived.Test.YtjclpbaiiklhcaaGreatDoorZV3
import Derived.WalkKit
/- Hold of the model: the late writes are done in order. -/
namespace Go.Proofs.YtjclpbaiiklhcaaGreatDoor.Disk
open Go.RowKit Go.Deep

def stepH (ss : List ByteArray) (x : Wr) : List ByteArray := ss.set x.1.toNat x.2
def holdN (ss : List ByteArray) (ws : List Wr) (j : Nat) : List ByteArray := (ws.take j).foldl stepH ss
def holdS (ss : List ByteArray) (ws : List Wr) : List ByteArray := if okD ss ws = true then holdN ss ws ws.length else []

theorem stepH_length (ss : List ByteArray) (x : Wr) : (stepH ss x).length = ss.length := by simp [stepH]
theorem foldH_length (ws : List Wr) : ∀ ss : List ByteArray, (ws.foldl stepH ss).length = ss.length := by
  induction ws with
  | nil => intro ss; rfl
  | cons x r ih => intro ss; rw [List.foldl_cons, ih, stepH_length]
theorem holdN_length (ss : List ByteArray) (ws : List Wr) (j : Nat) : (holdN ss ws j).length = ss.length := foldH_length _ _
theorem holdN_zero (ss : List ByteArray) (ws : List Wr) : holdN ss ws 0 = ss := by simp [holdN]
theorem holdN_succ (ss : List ByteArray) (ws : List Wr) (j : Nat) (h : j < ws.length) : holdN ss ws (j + 1) = stepH (holdN ss ws j) (ws.getD j wr0) := by
  unfold holdN
  rw [List.take_succ_eq_append_getElem h, List.foldl_append]
  simp [h]

theorem okD_all {ss : List ByteArray} {ws : List Wr} (h : okD ss ws = true) : ss.length = 64 ∧ ws.length ≤ 200 ∧ (∀ k, k < ss.length → (ss.getD k ByteArray.empty).size ≤ 256) ∧ ∀ k, k < ws.length → okW (ws.getD k wr0) = true := by
  unfold okD at h
  simp only [Bool.and_eq_true, decide_eq_true_eq, List.all_eq_true] at h
  obtain ⟨⟨⟨h1, h2⟩, h3⟩, h4⟩ := h
  refine ⟨h1, h2, fun k hk => ?_, fun k hk => ?_⟩
  · have := h3 ss[k] (List.getElem_mem hk)
    rw [List.getD_eq_getElem?_getD, List.getElem?_eq_getElem hk]
    simpa [okS] using this
  · have := h4 ws[k] (List.getElem_mem hk)
    rw [List.getD_eq_getElem?_getD, List.getElem?_eq_getElem hk]
    exact this

theorem okW_range {x : Wr} (h : okW x = true) : 0 ≤ x.1 ∧ x.1 ≤ 63 ∧ x.2.size ≤ 256 := by simpa [okW] using h

/-- A text stored into a row of texts. -/
theorem NS.put {B : Nat} {w : World} {b n cap k : Nat} {ss : List ByteArray} (t : ByteArray) (h : NS B w (.slice (some ⟨b, 0, none⟩) n cap) ss) (hk : k < ss.length) :
    NS B (w.setCell ⟨b, k, none⟩ (.string t)) (.slice (some ⟨b, 0, none⟩) n cap) (ss.set k t) := by
  obtain ⟨⟨ao, cp, e, ho⟩, ⟨ao', cp', e', hs⟩, hB⟩ := h
  simp only [Value.slice.injEq] at e e'
  obtain ⟨rfl, rfl, rfl⟩ := e
  obtain ⟨rfl, _, rfl⟩ := e'
  have hl : (ss.set k t).length = ss.length := by simp
  obtain ⟨b', N, f, eb, hN, hr⟩ := ho.resolve_left (by omega)
  simp only [Option.some.injEq, Addr.mk.injEq, and_true] at eb
  obtain rfl := eb
  refine ⟨⟨_, _, by rw [hl], .inr ⟨b, N, _, rfl, by rw [hl]; exact hN, hr.set k _⟩⟩, ⟨_, _, by rw [hl], fun i hi => ⟨b, 0, rfl, ?_⟩⟩, by rw [hl]; exact hB⟩
  rw [hl] at hi
  rw [Nat.zero_add]
  obtain ⟨b1, o1, e1, hc⟩ := hs i hi
  simp only [Option.some.injEq, Addr.mk.injEq, and_true] at e1
  obtain ⟨rfl, rfl⟩ := e1
  rw [Nat.zero_add] at hc
  by_cases hik : i = k
  · subst hik
    rw [World.cell?_setCell_same _ _ _ hc]
    simp [hi]
  · rw [World.cell?_setCell_other _ _ _ _ (by simp), hc]
    simp [List.getD_eq_getElem?_getD, Ne.symm hik]

/-- The block, a cell and its mark of a row of texts that is not empty. -/
theorem NS.form {B : Nat} {w : World} {v : Value} {ss : List ByteArray} (h : NS B w v ss) (hn : 0 < ss.length) : ∃ b cap, v = .slice (some ⟨b, 0, none⟩) ss.length cap ∧ B ≤ b ∧ b < w.heap.size ∧ (∀ k, k < ss.length → w.cell? ⟨b, k, none⟩ = some (.string (ss.getD k ByteArray.empty))) ∧ ∀ k, w.frozen? ⟨b, k, none⟩ = false := by
  obtain ⟨⟨ao, cp, rfl, ho⟩, ⟨ao', cp', e', hs⟩, hB⟩ := h
  obtain ⟨b, N, f, rfl, hN, hr⟩ := ho.resolve_left (by omega)
  simp only [Value.slice.injEq] at e'
  obtain ⟨rfl, _, rfl⟩ := e'
  refine ⟨b, cp, rfl, hB b (by rw [rowOf, if_neg (by omega)]; rfl), hr.lt, fun k hk => ?_, fun k => hr.frozen k⟩
  obtain ⟨b1, o1, e1, hc⟩ := hs k hk
  simp only [Option.some.injEq, Addr.mk.injEq, and_true] at e1
  obtain ⟨rfl, rfl⟩ := e1
  rwa [Nat.zero_add] at hc

theorem nd_zero (B : Nat) (w : World) : ND B w (.slice none 0 0) (.slice none 0 0) [] [] :=
  ⟨⟨_, _, rfl, .inl rfl⟩, ⟨_, _, rfl, .inl rfl⟩, ⟨_, _, rfl, fun i hi => by simp at hi⟩, ⟨_, _, rfl, fun i hi => by simp at hi⟩, fun b e => by simp [rowOf] at e, fun b e => by simp [rowOf] at e⟩

theorem cell_put {w : World} {b k b' o' : Nat} {u v : Value} (hne : b' ≠ b) (h : w.cell? ⟨b', o', none⟩ = some v) : (w.setCell ⟨b, k, none⟩ u).cell? ⟨b', o', none⟩ = some v :=
  (grown_set w b k u).cell h (by simp only [ne_eq, Option.some.injEq]; exact hne)

theorem NS.aside {B : Nat} {w : World} {b n cap c o : Nat} {ss : List ByteArray} (u : Value) (h : NS B w (.slice (some ⟨b, 0, none⟩) n cap) ss) (hne : b ≠ c) : NS B (w.setCell ⟨c, o, none⟩ u) (.slice (some ⟨b, 0, none⟩) n cap) ss := by
  have he : (Value.slice (some ⟨b, 0, none⟩) n cap).ownBlock ≠ some c := by simp [Value.ownBlock, hne]
  exact ⟨h.1.grown (grown_set w c o u) (.inr he), h.2.1.grown (grown_set w c o u) (.inr he), h.2.2⟩

theorem nw_empty (B : Nat) (w : World) (ao : Option Addr) (cap : Nat) : NW B w (.slice ao 0 cap) [] :=
  ⟨⟨_, _, rfl, .inl rfl⟩, ⟨_, _, rfl, fun i hi => by simp at hi⟩, fun b e => by simp [rowOf] at e⟩

theorem Res.put {R : Nat} {w : World} {b k : Nat} {u : Value} (h : Res R w) (hne : R ≠ b) : Res R (w.setCell ⟨b, k, none⟩ u) :=
  ⟨cell_put hne h.1, cell_put hne h.2.1, by rw [World.frozen?_setCell]; exact h.2.2.1, by rw [World.frozen?_setCell]; exact h.2.2.2.1, by simpa using h.2.2.2.2⟩

set_option maxRecDepth 100000 in
set_option maxHeartbeats 1600000 in
theorem specHold_any (v1 v2 : Value) (ss : List ByteArray) (ws : List Wr) (w : World) (hv1 : SR w v1 ss) (hv2 : WR w v2 ws) (h1 : ss.length ≤ 10000000000000) (h2 : ws.length ≤ 10000000000000) :
    Calls Tryz.prog 40 #[.agg #[v1, v2]] w fun e w' => ∃ u1 u2, e = .returned (.agg #[u1, u2]) ∧ ND w.heap.size w' u1 u2 (holdS ss ws) [] ∧ Below w.heap.size w w' := by
  have hb0 := bel_two w (.cells #[v1, v2] 27) (.cells #[.slice none 0 0, .slice none 0 0] 27)
  go_enter Tryz.func40, Tryz.ntmps40
  go_wp2_with (fail)
  refine (specDiskOk_any _ _ ss ws _ (hv1.later hb0) (hv2.later hb0) h1 h2).mono ?_
  rintro e w1 ⟨rfl, hb1⟩
  have hbw1 : Below w.heap.size w w1 := hb0.trans (hb1.mono (by simp; omega))
  have r1 : Res (w.heap.size + 1) w1 := Res.later ⟨cell_new _ _ 27 _ (by simp) 0 _ rfl, cell_new _ _ 27 _ (by simp) 1 _ rfl, frozen_new _ _ 27 _ (by simp) 0, frozen_new _ _ 27 _ (by simp) 1, by simp⟩ hb1
  have c0 : w1.cell? ⟨w.heap.size, 0, none⟩ = some v1 := cell_later hb1 (cell_later (bel_one _ _) (cell_new w #[v1, v2] 27 _ rfl 0 _ rfl))
  have c1 : w1.cell? ⟨w.heap.size, 1, none⟩ = some v2 := cell_later hb1 (cell_later (bel_one _ _) (cell_new w #[v1, v2] 27 _ rfl 1 _ rfl))
  cases hok : okD ss ws
  · have HK : Hid (okD ss ws = false) := hok
    clear hok
    have q0 := r1.1
    have q1 := r1.2.1
    have f0 := r1.2.2.1
    have f1 := r1.2.2.2.1
    have e5 := (hbw1.setCell (p := ⟨w.heap.size + 1, 0, none⟩) (by simp) (.slice none 0 0)).setCell (p := ⟨w.heap.size + 1, 1, none⟩) (by simp) (.slice none 0 0)
    have e6 : holdS ss ws = [] := by unfold holdS; rw [if_neg (by rw [HK.out]; simp)]
    have E6 : Hid (holdS ss ws = []) := e6
    clear e6
    go_wp2
    exact bodyPost_ret (v := .agg #[.slice none 0 0, .slice none 0 0]) (by simp [results, Tryz.results40, go_sem, q0, q1]) rfl ⟨_, _, rfl, by rw [E6.out]; exact nd_zero _ _, e5⟩
  · have HK : Hid (okD ss ws = true) := hok
    clear hok
    obtain ⟨l64, l200, _, hall⟩ := okD_all HK.out
    have e6 : holdS ss ws = holdN ss ws ws.length := by unfold holdS; rw [if_pos HK.out]
    have E6 : Hid (holdS ss ws = holdN ss ws ws.length) := e6
    clear e6
    have HALL : Hid (∀ k, k < ws.length → okW (ws.getD k wr0) = true) := hall
    have H64 : Hid (ss.length = 64) := l64
    have n64 : (64 : Int) ≤ (ss.length : Int) := by omega
    have n0 : 0 < ss.length := by omega
    clear hall l64
    go_wp2_with (fail)
    refine (specCopy_any _ _ ss ws _ (hv1.later hbw1) (hv2.later hbw1) (by have := H64.out; omega) (by omega)).mono ?_
    rintro e w2 ⟨u1, u2, rfl, hN2, hb2⟩
    have hS2 : NS w1.heap.size w2 u1 ss := ⟨hN2.1, hN2.2.2.1, hN2.2.2.2.2.1⟩
    obtain ⟨b, cap, rfl, hbb, hbz, _, _⟩ := hS2.form n0
    obtain ⟨bo, bn, bc, rfl⟩ := hN2.s2
    have hbw2 := bel_then hbw1 hbw1.size hb2
    have r2 := r1.later hb2
    have d1 := cell_later hb2 c1
    have hz : w.heap.size < w2.heap.size := World.block_lt_of_cell? _ _ d1
    have hz1 : w.heap.size + 1 < w2.heap.size := r2.2.2.2.2
    have hz2 : w.heap.size + 1 < w1.heap.size := r1.2.2.2.2
    clear c0 c1 hb1 r1
    go_wp2
    go_loopw [4] (fun i wr => ∃ (j : Nat), j ≤ ws.length ∧ i = .int .i64 j ∧ NS w1.heap.size wr (.slice (some ⟨b, 0, none⟩) ss.length cap) (holdN ss ws j) ∧ Res (w.heap.size + 1) wr ∧ wr.cell? ⟨w.heap.size, 1, none⟩ = some v2 ∧ wr.cell? ⟨w2.heap.size, 0, none⟩ = some (.slice (some ⟨b, 0, none⟩) ss.length cap) ∧ wr.cell? ⟨w2.heap.size, 1, none⟩ = some (.slice bo bn bc) ∧ wr.frozen? ⟨w2.heap.size, 1, none⟩ = false ∧ w2.heap.size < wr.heap.size ∧ Below w.heap.size w wr) (fun i _ => ws.length - (intOf i).toNat)
    case atStart =>
      exact ⟨0, Nat.zero_le _, rfl, by rw [holdN_zero]; exact hS2.al _, r2.al _, cell_later (bel_one _ _) d1, cell_new w2 _ 27 _ rfl 0 _ rfl, cell_new w2 _ 27 _ rfl 1 _ rfl, frozen_new w2 _ 27 _ rfl 1, by simp, hbw2.alloc hbw2.size _⟩
    case round =>
      obtain ⟨j, hj, rfl, hN, r, k1, k2, k3, k4, hzr, hb⟩ := hrel
      by_cases hlt : j < ws.length
      · have hW := hv2.later hb
        obtain ⟨co, cc, rfl, hu⟩ := hW
        obtain ⟨b', o', rfl, m1, m2⟩ := hu j hlt
        have hrange := okW_range (HALL.out j hlt)
        have hsucc := holdN_succ ss ws j hlt
        generalize hs : ws.getD j wr0 = s at *
        obtain ⟨s1, s2⟩ := s
        obtain ⟨x0, x63, _⟩ := hrange
        obtain ⟨k, rfl⟩ := Int.eq_ofNat_of_zero_le x0
        have HS : Hid (holdN ss ws (j + 1) = (holdN ss ws j).set k s2) := hsucc
        have hkn : k < ss.length := by omega
        have hlen : (holdN ss ws j).length = ss.length := holdN_length ss ws j
        obtain ⟨b2, cap2, e2, _, _, hcell, hfrz⟩ := hN.form (by omega)
        simp only [Value.slice.injEq, Option.some.injEq, Addr.mk.injEq, and_true] at e2
        obtain ⟨rfl, enn, rfl⟩ := e2
        clear enn
        have t1 := hcell k (by omega)
        have t2 := hfrz k
        generalize (holdN ss ws j).getD k ByteArray.empty = old at *
        clear hs hsucc hu hcell hfrz
        have R := hN.put s2 (k := k) (by omega)
        have R2 := (r.put (b := b) (k := k) (u := .string s2) (by omega)).dr
        have K1 := cell_put (b := b) (k := k) (u := .string s2) (by omega) k1
        have K2 := cell_put (b := b) (k := k) (u := .string s2) (by omega) k2
        have K3 := cell_put (b := b) (k := k) (u := .string s2) (by omega) k3
        have G := (hb.setCell (p := ⟨b, k, none⟩) (by simp; omega) (.string s2)).drew
        rw [← HS.out] at R
        clear hlen hS2 hN2 hbw2 r2 d1 hb2 hb0 hv1 hv2 hN
        go_wp2
        go_region
        all_goals go_wp2
        all_goals go_roundw
        case rel => exact ⟨j + 1, by omega, by go_num, R.dr, R2, K1, K2, K3, by simpa using k4, by simpa using hzr, G⟩
        case measure => simp [intOf]; omega
      · obtain rfl : j = ws.length := by omega
        obtain ⟨co, cc, rfl, _⟩ := hv2.later hb
        have q0 := r.1
        have q1 := r.2.1
        have f0 := r.2.2.1
        have f1 := r.2.2.2.1
        have zr : w.heap.size + 1 < wr.heap.size := r.2.2.2.2
        clear hS2 hN2 hbw2 r2 d1 hb2 hb0 hv1 hv2 r
        have P1 := (((hN.aside (c := w2.heap.size) (o := 1) (.slice (some ⟨wr.heap.size, 0, none⟩) 0 0) (by omega)).aside (c := w.heap.size + 1) (o := 0) (.slice (some ⟨b, 0, none⟩) ss.length cap) (by omega)).aside (c := w.heap.size + 1) (o := 1) (.slice (some ⟨wr.heap.size, 0, none⟩) 0 0) (by omega)).al (.cells #[] 48)
        have P2 := (((hb.setCell (p := ⟨w2.heap.size, 1, none⟩) (by simp; omega) (.slice (some ⟨wr.heap.size, 0, none⟩) 0 0)).setCell (p := ⟨w.heap.size + 1, 0, none⟩) (by simp) (.slice (some ⟨b, 0, none⟩) ss.length cap)).setCell (p := ⟨w.heap.size + 1, 1, none⟩) (by simp) (.slice (some ⟨wr.heap.size, 0, none⟩) 0 0)).alloc (by simp; omega) (.cells #[] 48)
        go_wp2
        exact bodyPost_ret (v := .agg #[.slice (some ⟨b, 0, none⟩) ss.length cap, .slice (some ⟨wr.heap.size, 0, none⟩) 0 0]) (by simp [results, Tryz.results40, go_sem, q0, q1, zr]) rfl ⟨_, _, rfl, by rw [E6.out]; exact ND_of (P1.mono (by omega)) (nw_empty _ _ _ _), P2⟩

end Go.Proofs.YtjclpbaiiklhcaaGreatDoor.Disk

/- copyTexts of the program: texts copied one by one into a new row. -/
namespace Go.Proofs.YtjclpbaiiklhcaaGreatDoor.Disk
open Go.RowKit Go.Deep

theorem make0_22 (n : Nat) (hn : n ≤ 10000000000000) (w : World) : (Instr.makeSlice 24 (.int .i64 0) (.int .i64 (n : Int))).run Tryz.prog w = .ok (.slice (some ⟨w.heap.size, 0, none⟩) 0 n) (w.alloc (.cells (madeCells #[.string ⟨#[]⟩] n) 9)) := by
  obtain ⟨i, hi, hzz⟩ := Option.map_eq_some_iff.1 Tryz.info9
  simp only [Prod.mk.injEq] at hzz
  obtain ⟨hz, hs, hb⟩ := hzz
  have hr := run_make (P := Tryz.prog) w 24 9 i _ Tryz.under22 hi hz .i64 .i64 0 n (by omega) (by omega) (by rw [hb]; omega) (by omega)
  rw [hs, Int.toNat_natCast, Nat.mul_one] at hr
  exact hr

theorem own_made (w : World) (e size n : Nat) (C : Array Value) (hC : C.size = n * size) (hn : n ≤ maxLen) : (w.alloc (.cells C e)).ownsRow w.heap.size e size (.slice (some ⟨w.heap.size, 0, none⟩) 0 n) 0 [] :=
  ⟨by simp, .inr ⟨w.heap.size, n, C, rfl, Nat.le_refl _, heap_alloc_new w _, by omega, hn, hC, by simp⟩⟩

theorem owned_row {w : World} {B e size n : Nat} {b cap : Nat} {xs : List Value} (g : Nat → Value) (h : w.ownsRow B e size (.slice (some ⟨b, 0, none⟩) n cap) n xs) (hg : ∀ i, i < xs.length → xs[i]? = some (g i)) :
    ∃ (N : Nat) (f : Nat → Value), w.rowIs b e N (fun i => if i < n * size then g i else f i) ∧ n * size ≤ N ∧ B ≤ b := by
  obtain ⟨hl, h⟩ := h
  rcases h with ⟨h, _⟩ | ⟨b', cap', cur, hv, hB, hh, hnc, _, hsz, htk⟩
  · simp at h
  · simp only [Value.slice.injEq, Option.some.injEq, Addr.mk.injEq, and_true] at hv
    obtain ⟨rfl, _, rfl⟩ := hv
    have hle : n * size ≤ cur.size := by rw [hsz]; exact Nat.mul_le_mul_right _ hnc
    refine ⟨cur.size, fun i => cur[i]?.getD undef, ⟨cur, hh, rfl, fun i hi => ?_⟩, hle, hB⟩
    show cur[i]? = some (if i < n * size then g i else cur[i]?.getD undef)
    by_cases hin : i < n * size
    · rw [if_pos hin]
      have hx := hg i (by omega)
      rw [← htk, List.getElem?_take_of_lt hin] at hx
      simpa using hx
    · rw [if_neg hin]
      simp [hi]

theorem ns_owns {w : World} {B b cap : Nat} {ss : List ByteArray} (h : w.ownsRow B 9 1 (.slice (some ⟨b, 0, none⟩) ss.length cap) ss.length (scells ss)) : NS B w (.slice (some ⟨b, 0, none⟩) ss.length cap) ss := by
  obtain ⟨N, f, hr, hN, hB⟩ := owned_row (scell ss) h (fun i hi => by rw [scells_length, Nat.mul_one] at hi; exact scells_get ss i hi)
  rw [Nat.mul_one] at hr hN
  exact ns_row hr hN hB

theorem nw_owns {w : World} {B b cap : Nat} {ws : List Wr} (h : w.ownsRow B 48 2 (.slice (some ⟨b, 0, none⟩) ws.length cap) ws.length (lcells ws)) : NW B w (.slice (some ⟨b, 0, none⟩) ws.length cap) ws := by
  obtain ⟨N, f, hr, hN, hB⟩ := owned_row (lcell ws) h (fun i hi => by rw [lcells_length] at hi; exact lcells_get ws i hi)
  exact nw_row hr hN hB

theorem scells_take_succ (ss : List ByteArray) (j : Nat) (h : j < ss.length) : scells (ss.take (j + 1)) = scells (ss.take j) ++ [.string (ss.getD j ByteArray.empty)] := by
  unfold scells
  rw [List.take_succ_eq_append_getElem h, List.map_append]
  congr 1
  simp [h]

set_option maxRecDepth 100000 in
set_option maxHeartbeats 1000000 in
theorem copyTexts_cap (v : Value) (ss : List ByteArray) (w : World) (hv : SR w v ss) (hl : ss.length ≤ 10000000000000) (hsz : ∀ k, k < ss.length → (ss.getD k ByteArray.empty).size ≤ 256) :
    Calls Tryz.prog 56 #[v] w fun e w' => ∃ v', e = .returned v' ∧ NS w.heap.size w' v' ss ∧ Below w.heap.size w w' ∧ CapS v' := by
  obtain ⟨ao, cap, rfl, hv⟩ := hv
  have hmk := make0_22 ss.length hl
  have HZ : Hid (∀ k, k < ss.length → (ss.getD k ByteArray.empty).size ≤ 256) := hsz
  have ho := own_made w 9 1 ss.length (madeCells #[.string ⟨#[]⟩] ss.length) (by rw [size_madeCells]; omega) (by unfold maxLen; omega)
  have HML : Hid (ss.length ≤ maxLen) := (by unfold maxLen; omega : ss.length ≤ maxLen)
  obtain ⟨i0, hi, hzz⟩ := Option.map_eq_some_iff.1 Tryz.info9
  simp only [Prod.mk.injEq] at hzz
  obtain ⟨_, hs1, _⟩ := hzz
  have HS1 : Hid (i0.size = 1) := hs1
  have HI : Hid (Tryz.prog.info? 9 = some i0) := hi
  clear hsz hs1 hi
  go_enter Tryz.func56, Tryz.ntmps56
  go_wp2
  go_loopw [3, 11] (fun out i wr => ∃ (j : Nat), j ≤ ss.length ∧ i = .int .i64 j ∧ out = .slice (some ⟨w.heap.size, 0, none⟩) j ss.length ∧ wr.ownsRow w.heap.size 9 1 (.slice (some ⟨w.heap.size, 0, none⟩) j ss.length) j (scells (ss.take j)) ∧ Below w.heap.size w wr) (fun _ i _ => ss.length - (intOf i).toNat)
  case atStart => exact ⟨0, Nat.zero_le _, rfl, rfl, ho, bel_one _ _⟩
  case round =>
    obtain ⟨j, hj, rfl, rfl, hown, hb⟩ := hrel
    by_cases hlt : j < ss.length
    · obtain ⟨b, o, rfl, hc⟩ := hv j hlt
      have hc1 := cell_later hb hc
      have hz := HZ.out j hlt
      have hsucc := scells_take_succ ss j hlt
      generalize ss.getD j ByteArray.empty = s at *
      have HS : Hid (scells (ss.take (j + 1)) = scells (ss.take j) ++ [.string s]) := hsucc
      clear hv hc hsucc hmk ho
      go_wp2_with (fail)
      refine (copyText_any s _ (by omega)).mono ?_
      rintro e w2 ⟨rfl, hb2⟩
      have hb3 := bel_then hb hb.size hb2
      have hown2 := hown.kept (grown_below (row := none) hb2) (.inr (by simp [Value.ownBlock]))
      have hown3 := hown2.alloc (.cells #[.string s] 9)
      clear hown hown2 hb
      go_wp2_with (first | (at_builtin; refine wpList_append_fits _ rfl _ _ 24 rfl w.heap.size 9 i0 1 Tryz.under22 HI.out HS1.out w.heap.size j ss.length _ rfl hown3 ⟨w2.heap.size, 0, none⟩ 1 1 [.string s] rfl rfl (cell_one_new _ _ _) (by simp [Value.oneCell']) (by omega) ?_; intro w4 hown4 hg4))
      have hb4 : Below w.heap.size w w4 := (hb3.alloc hb3.size _).grown hg4 (Nat.le_trans hb3.size (by simp)) (fun k e => by cases e; exact Nat.le_refl _)
      rw [← HS.out] at hown4
      go_roundw
      case rel => exact ⟨j + 1, by omega, by go_num, rfl, hown4, hb4⟩
      case measure => simp [intOf]; omega
    · obtain rfl : j = ss.length := by omega
      go_wp2
      go_ret
      rw [List.take_length] at hown
      exact ⟨_, rfl, ns_owns hown, hb, ⟨_, _, _, rfl, Nat.le_refl _⟩⟩
theorem copyTexts_any (v : Value) (ss : List ByteArray) (w : World) (hv : SR w v ss) (hl : ss.length ≤ 10000000000000) (hsz : ∀ k, k < ss.length → (ss.getD k ByteArray.empty).size ≤ 256) :
    Calls Tryz.prog 56 #[v] w fun e w' => ∃ v', e = .returned v' ∧ NS w.heap.size w' v' ss ∧ Below w.heap.size w w' :=
  (copyTexts_cap v ss w hv hl hsz).mono fun _ _ ⟨v', e, n, b, _⟩ => ⟨v', e, n, b⟩

end Go.Proofs.YtjclpbaiiklhcaaGreatDoor.Disk

/- Texts that are bent: what one change leaves of where the signs stand. -/
namespace Go.Proofs.YtjclpbaiiklhcaaGreatDoor
open Go.RowKit

/-- One change: at most one byte in the place of at most one, or the rest is cut off. -/
def Edit (l l' : List UInt8) : Prop := (∃ a m m' b, l = a ++ (m ++ b) ∧ l' = a ++ (m' ++ b) ∧ m.length ≤ 1 ∧ m'.length ≤ 1) ∨ ∃ k, l' = l.take k
theorem Edit.same (l : List UInt8) : Edit l l := .inl ⟨l, [], [], [], by simp, by simp, by simp, by simp⟩
theorem Edit.put {l : List UInt8} (k : Nat) (x : UInt8) (h : k < l.length) : Edit l (l.set k x) :=
  .inl ⟨l.take k, [l[k]], [x], l.drop (k + 1), by simp, by rw [List.set_eq_take_append_cons_drop, if_pos h]; simp, by simp, by simp⟩
theorem Edit.cut (l : List UInt8) (k : Nat) : Edit l (l.take k) := .inr ⟨k, rfl⟩
theorem Edit.drop {l : List UInt8} (k : Nat) (h : k < l.length) : Edit l (l.take k ++ l.drop (k + 1)) :=
  .inl ⟨l.take k, [l[k]], [], l.drop (k + 1), by simp, by simp, by simp, by simp⟩
theorem Edit.ins (l : List UInt8) (k : Nat) (x : UInt8) : Edit l (l.take k ++ [x] ++ l.drop k) :=
  .inl ⟨l.take k, [], [x], l.drop k, by simp, by simp, by simp, by simp⟩

def badSign (b : UInt8) : Bool := !(b == 83 || b == 59 || decide (48 ≤ b.toNat ∧ b.toNat ≤ 57))
def sc (n : Nat) (l : List UInt8) : Nat := (l.take n).countP (· == 59)
def bc (l : List UInt8) : Nat := (l.take 6).countP badSign
def Inv (j : Nat) (l : List UInt8) : Prop := l.length ≤ 7 + j ∨ 3 ≤ sc 9 l + j ∨ 6 ≤ bc l + j ∨ ∃ d, d ≤ j ∧ 2 ≤ sc (7 + j) l + d ∧ l.countP (· == 59) + 2 * d ≤ 2 + j

theorem countP_le_one {m : List UInt8} (p : UInt8 → Bool) (h : m.length ≤ 1) : m.countP p ≤ 1 := Nat.le_trans List.countP_le_length h
theorem take_mono (p : UInt8 → Bool) (l : List UInt8) {n n' : Nat} (h : n ≤ n') : (l.take n).countP p ≤ (l.take n').countP p := by
  have : l.take n = (l.take n').take n := by rw [List.take_take, Nat.min_eq_left h]
  rw [this]
  exact (List.take_sublist n (l.take n')).countP_le
theorem take_less (p : UInt8 → Bool) (b : List UInt8) (n : Nat) : (b.take (n + 1)).countP p ≤ (b.take n).countP p + 1 := by
  rw [List.take_add_one, List.countP_append]
  have : (b[n]?.toList).countP p ≤ 1 := countP_le_one p (by cases b[n]? <;> simp)
  omega
theorem front_count (p : UInt8 → Bool) (m b : List UInt8) (hm : m.length ≤ 1) (n : Nat) : ((m ++ b).take (n + 1)).countP p ≤ m.countP p + (b.take (n + 1 - m.length)).countP p ∧ (b.take n).countP p ≤ ((m ++ b).take (n + 1)).countP p := by
  rw [List.take_append, List.countP_append, List.take_of_length_le (by omega)]
  exact ⟨Nat.le_refl _, Nat.le_trans (take_mono p b (by omega)) (Nat.le_add_left _ _)⟩
/-- What stands in the first n places is at most one less. -/
theorem sub_count (p : UInt8 → Bool) (a m m' b : List UInt8) (hm : m.length ≤ 1) (hm' : m'.length ≤ 1) (n : Nat) : ((a ++ (m ++ b)).take n).countP p ≤ ((a ++ (m' ++ b)).take n).countP p + 1 := by
  rw [List.take_append (l₁ := a) (l₂ := m ++ b), List.take_append (l₁ := a) (l₂ := m' ++ b), List.countP_append (l₁ := a.take n), List.countP_append (l₁ := a.take n)]
  rcases Nat.eq_zero_or_pos (n - a.length) with h | h
  · rw [h]; simp
  · obtain ⟨r, hr⟩ : ∃ r, n - a.length = r + 1 := ⟨n - a.length - 1, by omega⟩
    rw [hr]
    have f1 := (front_count p m b hm r).1
    have f2 := (front_count p m' b hm' r).2
    have c1 := countP_le_one p hm
    rcases Nat.eq_zero_or_pos m.length with h0 | h0
    · have : m = [] := List.eq_nil_of_length_eq_zero h0
      subst this
      have := take_less p b r
      simp only [List.countP_nil, List.length_nil, Nat.sub_zero] at f1
      omega
    · have e : r + 1 - m.length = r := by omega
      rw [e] at f1
      omega
theorem edit_step {l l' : List UInt8} {j : Nat} (h : Edit l l') (i : Inv j l) : Inv (j + 1) l' := by
  rcases h with ⟨a, m, m', b, rfl, rfl, hm, hm'⟩ | ⟨k, rfl⟩
  · rcases i with i | i | i | ⟨d, hd, i1, i2⟩
    · left; simp only [List.length_append] at i ⊢; omega
    · right; left
      have := sub_count (· == 59) a m m' b hm hm' 9
      unfold sc at i ⊢
      omega
    · right; right; left
      have := sub_count badSign a m m' b hm hm' 6
      unfold bc at i ⊢
      omega
    · right; right; right
      unfold sc at i1 ⊢
      have c1 := countP_le_one (· == 59) hm
      have c1' := countP_le_one (· == 59) hm'
      have tot : (a ++ (m ++ b)).countP (· == 59) + m'.countP (· == 59) = (a ++ (m' ++ b)).countP (· == 59) + m.countP (· == 59) := by
        simp only [List.countP_append]
        omega
      have key : ((a ++ (m ++ b)).take (7 + j)).countP (· == 59) + m'.countP (· == 59) ≤ ((a ++ (m' ++ b)).take (7 + (j + 1))).countP (· == 59) + m.countP (· == 59) ∨ ((a ++ (m ++ b)).take (7 + j)).countP (· == 59) ≤ ((a ++ (m' ++ b)).take (7 + (j + 1))).countP (· == 59) := by
        rw [List.take_append (l₁ := a) (l₂ := m ++ b), List.take_append (l₁ := a) (l₂ := m' ++ b), List.countP_append (l₁ := a.take (7 + j)), List.countP_append (l₁ := a.take (7 + (j + 1)))]
        have ha : (a.take (7 + j)).countP (· == 59) ≤ (a.take (7 + (j + 1))).countP (· == 59) := take_mono _ _ (by omega)
        rcases Nat.eq_zero_or_pos (7 + j - a.length) with h | h
        · right
          rw [h]
          simp only [List.take_zero, List.countP_nil]
          omega
        · left
          obtain ⟨r, hr⟩ : ∃ r, 7 + j - a.length = r + 1 := ⟨7 + j - a.length - 1, by omega⟩
          have hr' : 7 + (j + 1) - a.length = r + 2 := by omega
          rw [hr, hr', List.take_append (l₁ := m), List.take_append (l₁ := m'), List.countP_append, List.countP_append, List.take_of_length_le (l := m) (by omega), List.take_of_length_le (l := m') (by omega)]
          have := take_mono (· == 59) b (show r + 1 - m.length ≤ r + 2 - m'.length by omega)
          omega
      by_cases hD : m.countP (· == 59) = 1 ∧ m'.countP (· == 59) = 0
      · exact ⟨d + 1, by omega, by omega, by omega⟩
      · refine ⟨d, by omega, ?_, by omega⟩
        rcases key with key | key <;> omega
  · rcases i with i | i | i | ⟨d, hd, i1, i2⟩
    · left; rw [List.length_take]; omega
    · by_cases hk : 9 ≤ k
      · right; left
        unfold sc at i ⊢
        rw [List.take_take, Nat.min_eq_left hk]
        omega
      · left; rw [List.length_take]; omega
    · by_cases hk : 6 ≤ k
      · right; right; left
        unfold bc at i ⊢
        rw [List.take_take, Nat.min_eq_left hk]
        omega
      · left; rw [List.length_take]; omega
    · by_cases hk : 7 + j ≤ k
      · right; right; right
        refine ⟨d, by omega, ?_, ?_⟩
        · unfold sc at i1 ⊢
          rw [List.take_take]
          have := take_mono (· == 59) l (show 7 + j ≤ min (7 + (j + 1)) k by omega)
          omega
        · have := (List.take_sublist k l).countP_le (p := (· == 59))
          omega
      · left; rw [List.length_take]; omega
theorem inv_more {l : List UInt8} {j : Nat} (i : Inv j l) : Inv (j + 1) l := edit_step (Edit.same l) i
theorem inv_le {l : List UInt8} {j : Nat} (i : Inv j l) : ∀ k, Inv (j + k) l
  | 0 => i
  | k + 1 => inv_more (inv_le i k)
/-- Texts that no superblock comes of. -/
def invB (s : ByteArray) : Bool := decide (s.data.toList.length ≤ 7) || decide (6 ≤ bc s.data.toList)
theorem inv_of {s : ByteArray} (h : invB s = true) : Inv 0 s.data.toList := by
  unfold invB at h
  rw [Bool.or_eq_true, decide_eq_true_eq, decide_eq_true_eq] at h
  rcases h with h | h
  · exact .inl h
  · exact .inr (.inr (.inl h))
theorem inv_mem {s : ByteArray} {L : List ByteArray} (h : s ∈ L) (hL : L.all invB = true) : Inv 0 s.data.toList := inv_of (List.all_eq_true.1 hL s h)
theorem inv_zeros (n : Nat) : Inv 0 (List.replicate (256 + n) (0 : UInt8)) := by
  right; right; left
  unfold bc
  rw [List.take_replicate, show min 6 (256 + n) = 6 by omega]
  decide

end Go.Proofs.YtjclpbaiiklhcaaGreatDoor
