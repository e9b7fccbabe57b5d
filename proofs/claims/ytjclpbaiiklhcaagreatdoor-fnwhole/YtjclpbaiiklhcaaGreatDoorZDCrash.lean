/- Crash of the model. -/
import Derived.Test.YtjclpbaiiklhcaaGreatDoorZV8
import Derived.Test.YtjclpbaiiklhcaaGreatDoorZV18
namespace Go.Proofs.YtjclpbaiiklhcaaGreatDoor.Disk
open Go.RowKit Go.Deep

/-- The flags that a slice reads as. -/
def LR (w : World) (v : Value) (bs : List Bool) : Prop :=
  ∃ ao cap, v = .slice ao bs.length cap ∧ ∀ i, i < bs.length → ∃ b o, ao = some ⟨b, o, none⟩ ∧ w.cell? ⟨b, o + i, none⟩ = some (.bool (bs.getD i false))
theorem LR.later {w w' : World} {v : Value} {bs : List Bool} (h : LR w v bs) (hb : Below w.heap.size w w') : LR w' v bs := by
  obtain ⟨ao, cap, rfl, h⟩ := h
  exact ⟨ao, cap, rfl, fun i hi => by obtain ⟨b, o, e, hc⟩ := h i hi; exact ⟨b, o, e, cell_later hb hc⟩⟩

def stepC (bs : List Bool) (tn : Int) (ss : List ByteArray) (x : NW1) : List ByteArray :=
  if (x.1 : Int) = tn then ss.set x.2.1.toNat (torn x.2.2 (ss.getD x.2.1.toNat ByteArray.empty)) else if bs.getD x.1 false = true then ss.set x.2.1.toNat x.2.2 else ss
def crashN (bs : List Bool) (tn : Int) (ss : List ByteArray) (ws : List Wr) (j : Nat) : List ByteArray := (num ws j).foldl (stepC bs tn) ss
def crashS (bs : List Bool) (tn : Int) (ss : List ByteArray) (ws : List Wr) : List ByteArray := if okD ss ws = true then crashN bs tn ss ws ws.length else []

theorem crashN_succ (bs : List Bool) (tn : Int) (ss : List ByteArray) (ws : List Wr) (j : Nat) : crashN bs tn ss ws (j + 1) = stepC bs tn (crashN bs tn ss ws j) (j, ws.getD j wr0) := by
  unfold crashN
  rw [num_succ, List.foldl_append]
  rfl
theorem stepC_length (bs : List Bool) (tn : Int) (ss : List ByteArray) (x : NW1) : (stepC bs tn ss x).length = ss.length := by
  unfold stepC
  split
  · simp
  · split <;> simp
theorem crashN_length (bs : List Bool) (tn : Int) (ss : List ByteArray) (ws : List Wr) : ∀ j, (crashN bs tn ss ws j).length = ss.length
  | 0 => rfl
  | j + 1 => by rw [crashN_succ, stepC_length, crashN_length]

theorem torn_data (t th : ByteArray) : (torn t th).size = min (t.size / 2) t.size + (th.size - t.size / 2) := by
  have h1 : t.data.size = t.size := rfl
  have h2 : th.data.size = th.size := rfl
  show (part t 0 (t.size / 2) ++ part th (t.size / 2) th.size).toArray.size = _
  simp [part]

/-- The torn text as the model's text spells it. -/
theorem torn_long (t th : ByteArray) (_h : t.size / 2 < th.size) : t.extract 0 (t.size / 2) ++ th.extract (t.size / 2) th.size = torn t th := by
  apply ByteArray.ext
  apply Array.ext'
  simp [torn, part, ByteArray.data_extract]
  rw [List.take_of_length_le (l := th.data.toList) (by rw [Array.length_toList]; exact Nat.le_refl _)]
  exact List.take_of_length_le (by rw [List.length_drop, Array.length_toList]; exact Nat.le_refl _)
theorem torn_head (t th : ByteArray) (h : th.size ≤ t.size / 2) : t.extract 0 (t.size / 2) = torn t th := by
  rw [← torn_short t th h]
  apply ByteArray.ext
  apply Array.ext'
  simp [part, ByteArray.data_extract]

theorem set_size {ss : List ByteArray} {k : Nat} {t : ByteArray} (h : ∀ i, (ss.getD i ByteArray.empty).size ≤ 256) (ht : t.size ≤ 256) : ∀ i, ((ss.set k t).getD i ByteArray.empty).size ≤ 256 := fun i => by
  rw [List.getD_eq_getElem?_getD, List.getElem?_set]
  by_cases e : k = i
  · subst e
    by_cases hk : k < ss.length
    · simp [hk, ht]
    · simp [hk, ByteArray.size_empty]
  · rw [if_neg e, ← List.getD_eq_getElem?_getD]
    exact h i

theorem stepC_size {bs : List Bool} {tn : Int} {ss : List ByteArray} {x : NW1} (h : ∀ i, (ss.getD i ByteArray.empty).size ≤ 256) (hx : okW x.2 = true) : ∀ i, ((stepC bs tn ss x).getD i ByteArray.empty).size ≤ 256 := by
  have hs := (okW_range hx).2.2
  unfold stepC
  split
  · refine set_size h ?_
    rw [torn_data]
    have := h x.2.1.toNat
    omega
  · split
    · exact set_size h hs
    · exact h

theorem getD_size {ss : List ByteArray} (h : ∀ k, k < ss.length → (ss.getD k ByteArray.empty).size ≤ 256) : ∀ i, (ss.getD i ByteArray.empty).size ≤ 256 := fun i => by
  by_cases hi : i < ss.length
  · exact h i hi
  · rw [List.getD_eq_getElem?_getD, List.getElem?_eq_none (by omega)]
    simp

theorem crashN_size {bs : List Bool} {tn : Int} {ss : List ByteArray} {ws : List Wr} (h : ∀ i, (ss.getD i ByteArray.empty).size ≤ 256) (hall : ∀ k, k < ws.length → okW (ws.getD k wr0) = true) : ∀ j, j ≤ ws.length → ∀ i, ((crashN bs tn ss ws j).getD i ByteArray.empty).size ≤ 256
  | 0, _ => h
  | j + 1, hj => by
    rw [crashN_succ]
    exact stepC_size (crashN_size h hall j (by omega)) (hall j (by omega))

set_option maxRecDepth 100000 in
set_option maxHeartbeats 2000000 in
theorem specCrash_any (v1 v2 vl : Value) (ss : List ByteArray) (ws : List Wr) (bs : List Bool) (tn : Int) (w : World) (hv1 : SR w v1 ss) (hv2 : WR w v2 ws) (hvl : LR w vl bs) (h1 : ss.length ≤ 10000000000000) (h2 : ws.length ≤ 10000000000000) (_h3 : bs.length ≤ 1000000000000000) :
    Calls Tryz.prog 41 #[.agg #[v1, v2], vl, .int .i64 tn] w fun e w' => ∃ u1 u2, e = .returned (.agg #[u1, u2]) ∧ ND w.heap.size w' u1 u2 (crashS bs tn ss ws) [] ∧ Below w.heap.size w w' := by
  have hb0 := bel_two w (.cells #[v1, v2] 27) (.cells #[.slice none 0 0, .slice none 0 0] 27)
  go_enter Tryz.func41, Tryz.ntmps41
  go_wp2_with (fail)
  refine (specDiskOk_any _ _ ss ws _ (hv1.later hb0) (hv2.later hb0) h1 h2).mono ?_
  rintro e w1 ⟨rfl, hb1⟩
  have hbw1 : Below w.heap.size w w1 := hb0.trans (hb1.mono (by simp; omega))
  have r1 : Res (w.heap.size + 1) w1 := Res.later ⟨cell_new _ _ 27 _ (by simp) 0 _ rfl, cell_new _ _ 27 _ (by simp) 1 _ rfl, frozen_new _ _ 27 _ (by simp) 0, frozen_new _ _ 27 _ (by simp) 1, by simp⟩ hb1
  have c0 : w1.cell? ⟨w.heap.size, 0, none⟩ = some v1 := cell_later hb1 (cell_later (bel_one _ _) (cell_new w #[v1, v2] 27 _ rfl 0 _ rfl))
  have c1 : w1.cell? ⟨w.heap.size, 1, none⟩ = some v2 := cell_later hb1 (cell_later (bel_one _ _) (cell_new w #[v1, v2] 27 _ rfl 1 _ rfl))
  cases hok : okD ss ws
  · have HK : Hid (okD ss ws = false) := hok
    clear hok
    have q0 := r1.1
    have q1 := r1.2.1
    have f0 := r1.2.2.1
    have f1 := r1.2.2.2.1
    have e5 := (hbw1.setCell (p := ⟨w.heap.size + 1, 0, none⟩) (by simp) (.slice none 0 0)).setCell (p := ⟨w.heap.size + 1, 1, none⟩) (by simp) (.slice none 0 0)
    have E6 : Hid (crashS bs tn ss ws = []) := (by unfold crashS; rw [if_neg (by rw [HK.out]; simp)] : crashS bs tn ss ws = [])
    go_wp2
    exact bodyPost_ret (v := .agg #[.slice none 0 0, .slice none 0 0]) (by simp [results, Tryz.results41, go_sem, q0, q1]) rfl ⟨_, _, rfl, by rw [E6.out]; exact nd_zero _ _, e5⟩
  · have HK : Hid (okD ss ws = true) := hok
    clear hok
    obtain ⟨l64, l200, hsz, hall⟩ := okD_all HK.out
    have HSZ : Hid (∀ j, j ≤ ws.length → ∀ i, ((crashN bs tn ss ws j).getD i ByteArray.empty).size ≤ 256) := crashN_size (getD_size hsz) hall
    clear hsz
    have E6 : Hid (crashS bs tn ss ws = crashN bs tn ss ws ws.length) := (by unfold crashS; rw [if_pos HK.out] : crashS bs tn ss ws = crashN bs tn ss ws ws.length)
    have HALL : Hid (∀ k, k < ws.length → okW (ws.getD k wr0) = true) := hall
    have H64 : Hid (ss.length = 64) := l64
    have n64 : (64 : Int) ≤ (ss.length : Int) := by omega
    have n0 : 0 < ss.length := by omega
    clear hall l64
    go_wp2_with (fail)
    refine (specCopy_any _ _ ss ws _ (hv1.later hbw1) (hv2.later hbw1) (by have := H64.out; omega) (by omega)).mono ?_
    rintro e w2 ⟨u1, u2, rfl, hN2, hb2⟩
    have hS2 : NS w1.heap.size w2 u1 ss := ⟨hN2.1, hN2.2.2.1, hN2.2.2.2.2.1⟩
    obtain ⟨b, cap, rfl, hbb, hbz, _, _⟩ := hS2.form n0
    obtain ⟨bo, bn, bc, rfl⟩ := hN2.s2
    have hbw2 := bel_then hbw1 hbw1.size hb2
    have r2 := r1.later hb2
    have d1 := cell_later hb2 c1
    have hz : w.heap.size < w2.heap.size := World.block_lt_of_cell? _ _ d1
    have hz1 : w.heap.size + 1 < w2.heap.size := r2.2.2.2.2
    have hz2 : w.heap.size + 1 < w1.heap.size := r1.2.2.2.2
    clear c0 c1 hb1 r1 hN2
    go_wp2
    go_loopw [8] (fun i wr => ∃ (j : Nat), j ≤ ws.length ∧ i = .int .i64 j ∧ NS w1.heap.size wr (.slice (some ⟨b, 0, none⟩) ss.length cap) (crashN bs tn ss ws j) ∧ Res (w.heap.size + 1) wr ∧ wr.cell? ⟨w.heap.size, 1, none⟩ = some v2 ∧ wr.cell? ⟨w2.heap.size, 0, none⟩ = some (.slice (some ⟨b, 0, none⟩) ss.length cap) ∧ wr.cell? ⟨w2.heap.size, 1, none⟩ = some (.slice (some ⟨w2.heap.size + 1, 0, none⟩) 0 0) ∧ w2.heap.size < wr.heap.size ∧ Below w.heap.size w wr) (fun i _ => ws.length - (intOf i).toNat)
    case atStart =>
      exact ⟨0, Nat.zero_le _, rfl, (hS2.al _).al _, (r2.al _).al _, cell_later (bel_two _ _ _) d1, cell_later (bel_one _ _) (cell_new w2 _ 27 _ rfl 0 _ rfl), cell_later (bel_one _ _) (cell_new w2 _ 27 _ rfl 1 _ rfl), by simp; omega, (hbw2.alloc hbw2.size _).alloc (Nat.le_trans hbw2.size (by simp)) _⟩
    case round =>
      obtain ⟨j, hj, rfl, hN, r, k1, k2, k3, hzr, hb⟩ := hrel
      by_cases hlt : j < ws.length
      · obtain ⟨co, cc, rfl, hu⟩ := hv2.later hb
        obtain ⟨b', o', rfl, m1, m2⟩ := hu j hlt
        have hrange := okW_range (HALL.out j hlt)
        have hsucc := crashN_succ bs tn ss ws j
        generalize hs : ws.getD j wr0 = s at *
        obtain ⟨s1, s2⟩ := s
        obtain ⟨x0, x63, x256⟩ := hrange
        dsimp only at x0 x63 x256
        obtain ⟨k, rfl⟩ := Int.eq_ofNat_of_zero_le x0
        have hkn : k < ss.length := by omega
        have ho256 := HSZ.out j hj k
        have hlen : (crashN bs tn ss ws j).length = ss.length := crashN_length bs tn ss ws j
        obtain ⟨b2, cap2, e2, hg1, hg2, hcell, hfrz⟩ := hN.form (by omega)
        simp only [Value.slice.injEq, Option.some.injEq, Addr.mk.injEq, and_true] at e2
        obtain ⟨rfl, enn, rfl⟩ := e2
        clear enn
        have t1 := hcell k (by omega)
        have t2 := hfrz k
        have HS : Hid (crashN bs tn ss ws (j + 1) = stepC bs tn (crashN bs tn ss ws j) (j, ((k : Int), s2))) := hsucc
        generalize hold : (crashN bs tn ss ws j).getD k ByteArray.empty = old at *
        have HO : Hid ((crashN bs tn ss ws j).getD k ByteArray.empty = old) := hold
        have R : ∀ (T : ByteArray), crashN bs tn ss ws (j + 1) = (crashN bs tn ss ws j).set k T → NS w1.heap.size ((wr.setCell ⟨b, k, none⟩ (.string T)).alloc (.cells #[.int .i64 k, .string s2] 48)) (.slice (some ⟨b, 0, none⟩) ss.length cap) (crashN bs tn ss ws (j + 1)) := fun T e => by
          rw [e]
          exact (hN.put T (k := k) (by omega)).al _
        have RR : Hid (∀ (T : ByteArray), crashN bs tn ss ws (j + 1) = (crashN bs tn ss ws j).set k T → NS w1.heap.size ((wr.setCell ⟨b, k, none⟩ (.string T)).alloc (.cells #[.int .i64 k, .string s2] 48)) (.slice (some ⟨b, 0, none⟩) ss.length cap) (crashN bs tn ss ws (j + 1))) := R
        clear hs hsucc hu hcell hfrz hold R
        by_cases hte : (j : Int) = tn
        · have te : ((j : Int) == tn) = true := by simp [hte]
          have HT : Hid ((j : Int) = tn) := hte
          clear hte
          have e1 : crashN bs tn ss ws (j + 1) = (crashN bs tn ss ws j).set k (torn s2 old) := by
            rw [HS.out]
            unfold stepC
            rw [if_pos HT.out, Int.toNat_natCast, HO.out]
          have E1 : Hid (crashN bs tn ss ws (j + 1) = (crashN bs tn ss ws j).set k (torn s2 old)) := e1
          clear e1
          by_cases hol : old.size ≤ s2.size / 2
          · have hol' : ¬ ((s2.size : Int) / 2 < (old.size : Int)) := by omega
            clear hlen hS2 hbw2 r2 d1 hb2 hb0 hv1 hv2 hN
            go_wp2
            go_roundw
            case rel => exact ⟨j + 1, by omega, by go_num, RR.out _ (by rw [E1.out, torn_head s2 old hol]), (r.put (by omega)).al _, cell_later (bel_one _ _) (cell_put (by omega) k1), cell_later (bel_one _ _) (cell_put (by omega) k2), cell_later (bel_one _ _) (cell_put (by omega) k3), by simp; omega, (hb.setCell (p := ⟨b, k, none⟩) (by simp; omega) _).alloc (by have := hb.size; simp; omega) _⟩
            case measure => simp [intOf]; omega
          · have hol' : ((s2.size : Int) / 2 < (old.size : Int)) := by omega
            clear hlen hS2 hbw2 r2 d1 hb2 hb0 hv1 hv2 hN
            go_wp2
            go_roundw
            case rel => exact ⟨j + 1, by omega, by go_num, RR.out _ (by rw [E1.out, torn_long s2 old (by omega)]), (r.put (by omega)).al _, cell_later (bel_one _ _) (cell_put (by omega) k1), cell_later (bel_one _ _) (cell_put (by omega) k2), cell_later (bel_one _ _) (cell_put (by omega) k3), by simp; omega, (hb.setCell (p := ⟨b, k, none⟩) (by simp; omega) _).alloc (by have := hb.size; simp; omega) _⟩
            case measure => simp [intOf]; omega
        · have te : ((j : Int) == tn) = false := by simp [hte]
          have HT : Hid (¬ (j : Int) = tn) := hte
          clear hte
          obtain ⟨lo, lc, rfl, hl⟩ := hvl.later hb
          by_cases hjl : j < bs.length
          · obtain ⟨bl, ol, rfl, hlc⟩ := hl j hjl
            have hbl : bl < wr.heap.size := World.block_lt_of_cell? _ _ hlc
            have tl : decide ((j : Int) < (bs.length : Int)) = true := by simp; omega
            cases hbj : bs.getD j false
            · rw [hbj] at hlc
              have e1 : crashN bs tn ss ws (j + 1) = crashN bs tn ss ws j := by
                rw [HS.out]
                unfold stepC
                rw [if_neg HT.out, if_neg (by simp only; rw [hbj]; simp)]
              have E1 : Hid (crashN bs tn ss ws (j + 1) = crashN bs tn ss ws j) := e1
              clear e1 hbj hl hlen hS2 hbw2 r2 d1 hb2 hb0 hv1 hv2
              go_wp2
              go_roundw
              case rel => exact ⟨j + 1, by omega, by go_num, by rw [E1.out]; exact hN.al _, r.al _, cell_later (bel_one _ _) k1, cell_later (bel_one _ _) k2, cell_later (bel_one _ _) k3, by simp; omega, hb.alloc hb.size _⟩
              case measure => simp [intOf]; omega
            · rw [hbj] at hlc
              have e1 : crashN bs tn ss ws (j + 1) = (crashN bs tn ss ws j).set k s2 := by
                rw [HS.out]
                unfold stepC
                rw [if_neg HT.out, if_pos (by simp only; exact hbj), Int.toNat_natCast]
              have E1 : Hid (crashN bs tn ss ws (j + 1) = (crashN bs tn ss ws j).set k s2) := e1
              clear e1 hbj hl hlen hS2 hbw2 r2 d1 hb2 hb0 hv1 hv2 hN
              go_wp2
              go_roundw
              case rel => exact ⟨j + 1, by omega, by go_num, RR.out _ E1.out, (r.put (by omega)).al _, cell_later (bel_one _ _) (cell_put (by omega) k1), cell_later (bel_one _ _) (cell_put (by omega) k2), cell_later (bel_one _ _) (cell_put (by omega) k3), by simp; omega, (hb.setCell (p := ⟨b, k, none⟩) (by simp; omega) _).alloc (by have := hb.size; simp; omega) _⟩
              case measure => simp [intOf]; omega
          · have tl : decide ((j : Int) < (bs.length : Int)) = false := by simp; omega
            have e1 : crashN bs tn ss ws (j + 1) = crashN bs tn ss ws j := by
              rw [HS.out]
              unfold stepC
              rw [if_neg HT.out, if_neg (by simp [hjl])]
            have E1 : Hid (crashN bs tn ss ws (j + 1) = crashN bs tn ss ws j) := e1
            clear e1 hl hlen hS2 hbw2 r2 d1 hb2 hb0 hv1 hv2
            go_wp2
            go_roundw
            case rel => exact ⟨j + 1, by omega, by go_num, by rw [E1.out]; exact hN.al _, r.al _, cell_later (bel_one _ _) k1, cell_later (bel_one _ _) k2, cell_later (bel_one _ _) k3, by simp; omega, hb.alloc hb.size _⟩
            case measure => simp [intOf]; omega
      · obtain rfl : j = ws.length := by omega
        obtain ⟨co, cc, rfl, _⟩ := hv2.later hb
        have q0 := r.1
        have q1 := r.2.1
        have f0 := r.2.2.1
        have f1 := r.2.2.2.1
        have zr : w.heap.size + 1 < wr.heap.size := r.2.2.2.2
        have P1 := (hN.aside (c := w.heap.size + 1) (o := 0) (.slice (some ⟨b, 0, none⟩) ss.length cap) (by omega)).aside (c := w.heap.size + 1) (o := 1) (.slice (some ⟨w2.heap.size + 1, 0, none⟩) 0 0) (by omega)
        have P2 := (hb.setCell (p := ⟨w.heap.size + 1, 0, none⟩) (by simp) (.slice (some ⟨b, 0, none⟩) ss.length cap)).setCell (p := ⟨w.heap.size + 1, 1, none⟩) (by simp) (.slice (some ⟨w2.heap.size + 1, 0, none⟩) 0 0)
        clear hS2 hbw2 r2 d1 hb2 hb0 hv1 hv2 r hN
        go_wp2
        exact bodyPost_ret (v := .agg #[.slice (some ⟨b, 0, none⟩) ss.length cap, .slice (some ⟨w2.heap.size + 1, 0, none⟩) 0 0]) (by simp [results, Tryz.results41, go_sem, q0, q1]) rfl ⟨_, _, rfl, by rw [E6.out]; exact ND_of (P1.mono (by omega)) (nw_empty _ _ _ _), P2⟩

end Go.Proofs.YtjclpbaiiklhcaaGreatDoor.Disk
