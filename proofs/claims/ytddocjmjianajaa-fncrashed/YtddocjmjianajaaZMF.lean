import Derived.Test.YtddocjmjianajaaZDTexts
import Derived.Test.YtddocjmjianajaaZDIterP
import Derived.Test.YtddocjmjianajaaZDBase
/- tornText of the program: the head of a text and behind it the rest of what was there. -/
namespace Go.Proofs.Ytddocjmjianajaa.Disk
open Go.RowKit Go.Deep

def torn (t th : ByteArray) : ByteArray := ⟨(part t 0 (t.size / 2) ++ part th (t.size / 2) th.size).toArray⟩

theorem torn_short (t th : ByteArray) (h : th.size ≤ t.size / 2) : (⟨(part t 0 (t.size / 2)).toArray⟩ : ByteArray) = torn t th := by
  have e : part th (t.size / 2) th.size = [] := by
    apply List.eq_nil_of_length_eq_zero
    rw [part_length th _ _ (Nat.le_refl _)]
    omega
  unfold torn
  rw [e, List.append_nil]

theorem Try.info5 : (Try.prog.info? 5).map (fun i => (i.zero, i.size, i.bytes)) = some (some (.int .u8 0), 1, 1) := by kernel_rfl
theorem Try.under73 : Try.prog.underlying 22 = some (.slice 5) := by kernel_rfl

def bcells (l : List UInt8) : List Value := l.map fun b => Value.int .u8 (b.toNat : Int)
theorem bcells_length (l : List UInt8) : (bcells l).length = l.length * 1 := by simp [bcells]
theorem bcells_at {w : World} {a : Addr} {l : List UInt8} (h : BytesAt w a l) : ∀ j u, (bcells l)[j]? = some u → w.cell? (a.add j) = some u := fun j u hu => by
  have hj := getElem?_lt hu
  rw [bcells_length, Nat.mul_one] at hj
  rw [h j hj, ← hu]
  simp [bcells, hj]
theorem bcells_one (l : List UInt8) : ∀ u ∈ bcells l, u.oneCell' = true := fun u hu => by
  obtain ⟨b, _, rfl⟩ := List.mem_map.1 hu
  rfl

theorem bytes_owned {w : World} {B b n cap : Nat} {l : List UInt8} (hn : n = l.length) (h : w.ownsRow B 5 1 (.slice (some ⟨b, 0, none⟩) n cap) n (bcells l)) : BytesAt w ⟨b, 0, none⟩ l := by
  obtain ⟨N, f, hr, hN, _⟩ := owned_row (fun i => Value.int .u8 ((l.getD i 0).toNat : Int)) h (fun i hi => by
    rw [bcells_length, Nat.mul_one] at hi
    simp [bcells, hi])
  intro j hj
  rw [Addr.add_lit, Nat.zero_add, hr.cell (by omega), if_pos (by omega)]
  simp [hj]

theorem torn_conv (t th : ByteArray) {w3 : World} {B n m : Nat} {v' : Value} (hn : n = (part t 0 (t.size / 2)).length) (hm : m = (part th (t.size / 2) th.size).length) (h0 : 0 < n + m)
    (hown : w3.ownsRow B 5 1 v' (n + m) (bcells (part t 0 (t.size / 2)) ++ bcells (part th (t.size / 2) th.size))) :
    ∃ g cp, v' = .slice (some ⟨g, 0, none⟩) (n + m) cp ∧ (convert 22 9 (.slice (some ⟨g, 0, none⟩) (n + m) cp)).run Try.prog w3 = .ok (.string (torn t th)) w3 := by
  obtain ⟨g, cp, rfl⟩ : ∃ g cp, v' = .slice (some ⟨g, 0, none⟩) (n + m) cp := by
    rcases hown.2 with ⟨_, h⟩ | ⟨g, cp, _, hv, _⟩
    · omega
    · exact ⟨g, cp, hv⟩
  have hl : n + m = (part t 0 (t.size / 2) ++ part th (t.size / 2) th.size).length := by rw [List.length_append, hn, hm]
  have hown' : w3.ownsRow B 5 1 (.slice (some ⟨g, 0, none⟩) (n + m) cp) (n + m) (bcells (part t 0 (t.size / 2) ++ part th (t.size / 2) th.size)) := by
    unfold bcells at hown ⊢
    rw [List.map_append]
    exact hown
  exact ⟨g, cp, rfl, conv_back w3 ⟨g, 0, none⟩ cp _ (n + m) hl (bytes_owned hl hown')⟩

set_option maxRecDepth 100000 in
set_option maxHeartbeats 1000000 in
theorem tornText_any (t th : ByteArray) (w : World) (ht : t.size ≤ 256) (hth : th.size ≤ 256) :
    Calls Try.prog 31 #[.string t, .string th] w fun e w' => e = .returned (.string (torn t th)) ∧ Below w.heap.size w w' := by
  have hh : ((t.size : Int) / 2) = ((t.size / 2 : Nat) : Int) := by omega
  have HH : Hid (((t.size : Int) / 2) = ((t.size / 2 : Nat) : Int)) := hh
  clear hh
  obtain ⟨i0, hi, hzz⟩ := Option.map_eq_some_iff.1 Try.info5
  simp only [Prod.mk.injEq] at hzz
  obtain ⟨hz0, hz1, hz2⟩ := hzz
  have HI : Hid (Try.prog.info? 5 = some i0 ∧ i0.zero = some (.int .u8 0) ∧ i0.size = 1 ∧ i0.bytes = 1) := ⟨hi, hz0, hz1, hz2⟩
  clear hi hz0 hz1 hz2
  go_enter Try.func31, Try.ntmps31
  go_wp2_with (fail)
  rw [HH.out]
  refine (textPart_any t 0 (t.size / 2) _ (by omega) (by omega) (by omega)).mono ?_
  rintro e w1 ⟨a, n, rfl, hn, hB, hb⟩
  have HN : Hid (n = (part t 0 (t.size / 2)).length) := hn
  clear hn
  by_cases hlt : th.size ≤ t.size / 2
  · have hcv := conv_back w1 a n (part t 0 (t.size / 2)) n HN.out hB
    rw [torn_short t th hlt] at hcv
    have hge : ((th.size : Int) ≤ ((t.size / 2 : Nat) : Int)) := by omega
    go_wp2
    go_ret
    exact ⟨rfl, hb⟩
  · have hge : ¬ ((th.size : Int) ≤ ((t.size / 2 : Nat) : Int)) := by omega
    go_wp2_with (fail)
    refine (textPart_any th (t.size / 2) th.size _ (by omega) (by omega) (Nat.le_refl _)).mono ?_
    rintro e w2 ⟨a', m, rfl, hm, hB', hb'⟩
    have HM : Hid (m = (part th (t.size / 2) th.size).length) := hm
    clear hm
    have hbw := bel_then hb hb.size hb'
    have l1 := part_length t 0 (t.size / 2) (by omega)
    have l2 := part_length th (t.size / 2) th.size (Nat.le_refl _)
    have HL : Hid ((part t 0 (t.size / 2)).length = t.size / 2 - 0 ∧ (part th (t.size / 2) th.size).length = th.size - t.size / 2) := ⟨l1, l2⟩
    have hB2 := hB.later hb'
    clear l1 l2 hB hb hb'
    go_wp2_with (first | (at_builtin; refine wpList_append_grows _ rfl _ _ 22 rfl 5 i0 (.int .u8 0) 1 1 Try.under73 HI.out.1 HI.out.2.1 HI.out.2.2.1 HI.out.2.2.2 rfl (by decide) (some a) n n (bcells (part t 0 (t.size / 2))) rfl (by intro h; cases h) (by rw [bcells_length, HN.out]) (by intro b hb j u hu; cases hb; exact bcells_at hB2 j u hu) a' m m (bcells (part th (t.size / 2) th.size)) rfl (by rw [bcells_length, HM.out]) (bcells_at hB') (bcells_one _) (by have := HL.out; have := HM.out; omega) (by have := HL.out; have := HM.out; have := HN.out; unfold maxLen; omega) (by have := HL.out; have := HM.out; have := HN.out; omega) ?_; intro v' w3 hown hg; obtain ⟨g, cp, rfl, hcv2⟩ := torn_conv t th HN.out HM.out (by have := HL.out; have := HM.out; omega) hown))
    have hb3 : Below w.heap.size w w3 := hbw.grown hg hbw.size (fun k e => by cases e)
    go_ret
    exact ⟨rfl, hb3⟩

end Go.Proofs.Ytddocjmjianajaa.Disk

/- Crash of the model. -/
namespace Go.Proofs.Ytddocjmjianajaa.Disk
open Go.RowKit Go.Deep

/-- The flags that a slice reads as. -/
def LR (w : World) (v : Value) (bs : List Bool) : Prop :=
  ∃ ao cap, v = .slice ao bs.length cap ∧ ∀ i, i < bs.length → ∃ b o, ao = some ⟨b, o, none⟩ ∧ w.cell? ⟨b, o + i, none⟩ = some (.bool (bs.getD i false))
theorem LR.later {w w' : World} {v : Value} {bs : List Bool} (h : LR w v bs) (hb : Below w.heap.size w w') : LR w' v bs := by
  obtain ⟨ao, cap, rfl, h⟩ := h
  exact ⟨ao, cap, rfl, fun i hi => by obtain ⟨b, o, e, hc⟩ := h i hi; exact ⟨b, o, e, cell_later hb hc⟩⟩

def stepC (bs : List Bool) (tn : Int) (ss : List ByteArray) (x : NW1) : List ByteArray :=
  if (x.1 : Int) = tn then ss.set x.2.1.toNat (torn x.2.2 (ss.getD x.2.1.toNat ByteArray.empty)) else if bs.getD x.1 false = true then ss.set x.2.1.toNat x.2.2 else ss
def crashN (bs : List Bool) (tn : Int) (ss : List ByteArray) (ws : List Wr) (j : Nat) : List ByteArray := (num ws j).foldl (stepC bs tn) ss
def crashS (bs : List Bool) (tn : Int) (ss : List ByteArray) (ws : List Wr) : List ByteArray := if okD ss ws = true then crashN bs tn ss ws ws.length else []

theorem crashN_succ (bs : List Bool) (tn : Int) (ss : List ByteArray) (ws : List Wr) (j : Nat) : crashN bs tn ss ws (j + 1) = stepC bs tn (crashN bs tn ss ws j) (j, ws.getD j wr0) := by
  unfold crashN
  rw [num_succ, List.foldl_append]
  rfl
theorem stepC_length (bs : List Bool) (tn : Int) (ss : List ByteArray) (x : NW1) : (stepC bs tn ss x).length = ss.length := by
  unfold stepC
  split
  · simp
  · split <;> simp
theorem crashN_length (bs : List Bool) (tn : Int) (ss : List ByteArray) (ws : List Wr) : ∀ j, (crashN bs tn ss ws j).length = ss.length
  | 0 => rfl
  | j + 1 => by rw [crashN_succ, stepC_length, crashN_length]

theorem torn_data (t th : ByteArray) : (torn t th).size = min (t.size / 2) t.size + (th.size - t.size / 2) := by
  have h1 : t.data.size = t.size := rfl
  have h2 : th.data.size = th.size := rfl
  show (part t 0 (t.size / 2) ++ part th (t.size / 2) th.size).toArray.size = _
  simp [part]

/-- The torn text as the model's text spells it. -/
theorem torn_long (t th : ByteArray) (_h : t.size / 2 < th.size) : t.extract 0 (t.size / 2) ++ th.extract (t.size / 2) th.size = torn t th := by
  apply ByteArray.ext
  apply Array.ext'
  simp [torn, part, ByteArray.data_extract]
  rw [List.take_of_length_le (l := th.data.toList) (by rw [Array.length_toList]; exact Nat.le_refl _)]
  exact List.take_of_length_le (by rw [List.length_drop, Array.length_toList]; exact Nat.le_refl _)
theorem torn_head (t th : ByteArray) (h : th.size ≤ t.size / 2) : t.extract 0 (t.size / 2) = torn t th := by
  rw [← torn_short t th h]
  apply ByteArray.ext
  apply Array.ext'
  simp [part, ByteArray.data_extract]

theorem set_size {ss : List ByteArray} {k : Nat} {t : ByteArray} (h : ∀ i, (ss.getD i ByteArray.empty).size ≤ 256) (ht : t.size ≤ 256) : ∀ i, ((ss.set k t).getD i ByteArray.empty).size ≤ 256 := fun i => by
  rw [List.getD_eq_getElem?_getD, List.getElem?_set]
  by_cases e : k = i
  · subst e
    by_cases hk : k < ss.length
    · simp [hk, ht]
    · simp [hk, ByteArray.size_empty]
  · rw [if_neg e, ← List.getD_eq_getElem?_getD]
    exact h i

theorem stepC_size {bs : List Bool} {tn : Int} {ss : List ByteArray} {x : NW1} (h : ∀ i, (ss.getD i ByteArray.empty).size ≤ 256) (hx : okW x.2 = true) : ∀ i, ((stepC bs tn ss x).getD i ByteArray.empty).size ≤ 256 := by
  have hs := (okW_range hx).2.2
  unfold stepC
  split
  · refine set_size h ?_
    rw [torn_data]
    have := h x.2.1.toNat
    omega
  · split
    · exact set_size h hs
    · exact h

theorem getD_size {ss : List ByteArray} (h : ∀ k, k < ss.length → (ss.getD k ByteArray.empty).size ≤ 256) : ∀ i, (ss.getD i ByteArray.empty).size ≤ 256 := fun i => by
  by_cases hi : i < ss.length
  · exact h i hi
  · rw [List.getD_eq_getElem?_getD, List.getElem?_eq_none (by omega)]
    simp

theorem crashN_size {bs : List Bool} {tn : Int} {ss : List ByteArray} {ws : List Wr} (h : ∀ i, (ss.getD i ByteArray.empty).size ≤ 256) (hall : ∀ k, k < ws.length → okW (ws.getD k wr0) = true) : ∀ j, j ≤ ws.length → ∀ i, ((crashN bs tn ss ws j).getD i ByteArray.empty).size ≤ 256
  | 0, _ => h
  | j + 1, hj => by
    rw [crashN_succ]
    exact stepC_size (crashN_size h hall j (by omega)) (hall j (by omega))

set_option maxRecDepth 100000 in
set_option maxHeartbeats 2000000 in
theorem specCrash_any (v1 v2 vl : Value) (ss : List ByteArray) (ws : List Wr) (bs : List Bool) (tn : Int) (w : World) (hv1 : SR w v1 ss) (hv2 : WR w v2 ws) (hvl : LR w vl bs) (h1 : ss.length ≤ 10000000000000) (h2 : ws.length ≤ 10000000000000) (_h3 : bs.length ≤ 1000000000000000) :
    Calls Try.prog 15 #[.agg #[v1, v2], vl, .int .i64 tn] w fun e w' => ∃ u1 u2, e = .returned (.agg #[u1, u2]) ∧ ND w.heap.size w' u1 u2 (crashS bs tn ss ws) [] ∧ Below w.heap.size w w' := by
  have hb0 := bel_two w (.cells #[v1, v2] 27) (.cells #[.slice none 0 0, .slice none 0 0] 27)
  go_enter Try.func15, Try.ntmps15
  go_wp2_with (fail)
  refine (specDiskOk_any _ _ ss ws _ (hv1.later hb0) (hv2.later hb0) h1 h2).mono ?_
  rintro e w1 ⟨rfl, hb1⟩
  have hbw1 : Below w.heap.size w w1 := hb0.trans (hb1.mono (by simp; omega))
  have r1 : Res (w.heap.size + 1) w1 := Res.later ⟨cell_new _ _ 27 _ (by simp) 0 _ rfl, cell_new _ _ 27 _ (by simp) 1 _ rfl, frozen_new _ _ 27 _ (by simp) 0, frozen_new _ _ 27 _ (by simp) 1, by simp⟩ hb1
  have c0 : w1.cell? ⟨w.heap.size, 0, none⟩ = some v1 := cell_later hb1 (cell_later (bel_one _ _) (cell_new w #[v1, v2] 27 _ rfl 0 _ rfl))
  have c1 : w1.cell? ⟨w.heap.size, 1, none⟩ = some v2 := cell_later hb1 (cell_later (bel_one _ _) (cell_new w #[v1, v2] 27 _ rfl 1 _ rfl))
  cases hok : okD ss ws
  · have HK : Hid (okD ss ws = false) := hok
    clear hok
    have q0 := r1.1
    have q1 := r1.2.1
    have f0 := r1.2.2.1
    have f1 := r1.2.2.2.1
    have e5 := (hbw1.setCell (p := ⟨w.heap.size + 1, 0, none⟩) (by simp) (.slice none 0 0)).setCell (p := ⟨w.heap.size + 1, 1, none⟩) (by simp) (.slice none 0 0)
    have E6 : Hid (crashS bs tn ss ws = []) := (by unfold crashS; rw [if_neg (by rw [HK.out]; simp)] : crashS bs tn ss ws = [])
    go_wp2
    exact bodyPost_ret (v := .agg #[.slice none 0 0, .slice none 0 0]) (by simp [results, Try.results15, go_sem, q0, q1]) rfl ⟨_, _, rfl, by rw [E6.out]; exact nd_zero _ _, e5⟩
  · have HK : Hid (okD ss ws = true) := hok
    clear hok
    obtain ⟨l64, l200, hsz, hall⟩ := okD_all HK.out
    have HSZ : Hid (∀ j, j ≤ ws.length → ∀ i, ((crashN bs tn ss ws j).getD i ByteArray.empty).size ≤ 256) := crashN_size (getD_size hsz) hall
    clear hsz
    have E6 : Hid (crashS bs tn ss ws = crashN bs tn ss ws ws.length) := (by unfold crashS; rw [if_pos HK.out] : crashS bs tn ss ws = crashN bs tn ss ws ws.length)
    have HALL : Hid (∀ k, k < ws.length → okW (ws.getD k wr0) = true) := hall
    have H64 : Hid (ss.length = 64) := l64
    have n64 : (64 : Int) ≤ (ss.length : Int) := by omega
    have n0 : 0 < ss.length := by omega
    clear hall l64
    go_wp2_with (fail)
    refine (specCopy_any _ _ ss ws _ (hv1.later hbw1) (hv2.later hbw1) (by have := H64.out; omega) (by omega)).mono ?_
    rintro e w2 ⟨u1, u2, rfl, hN2, hb2⟩
    have hS2 : NS w1.heap.size w2 u1 ss := ⟨hN2.1, hN2.2.2.1, hN2.2.2.2.2.1⟩
    obtain ⟨b, cap, rfl, hbb, hbz, _, _⟩ := hS2.form n0
    obtain ⟨bo, bn, bc, rfl⟩ := hN2.s2
    have hbw2 := bel_then hbw1 hbw1.size hb2
    have r2 := r1.later hb2
    have d1 := cell_later hb2 c1
    have hz : w.heap.size < w2.heap.size := World.block_lt_of_cell? _ _ d1
    have hz1 : w.heap.size + 1 < w2.heap.size := r2.2.2.2.2
    have hz2 : w.heap.size + 1 < w1.heap.size := r1.2.2.2.2
    clear c0 c1 hb1 r1 hN2
    go_wp2
    go_loopw [8] (fun i wr => ∃ (j : Nat), j ≤ ws.length ∧ i = .int .i64 j ∧ NS w1.heap.size wr (.slice (some ⟨b, 0, none⟩) ss.length cap) (crashN bs tn ss ws j) ∧ Res (w.heap.size + 1) wr ∧ wr.cell? ⟨w.heap.size, 1, none⟩ = some v2 ∧ wr.cell? ⟨w2.heap.size, 0, none⟩ = some (.slice (some ⟨b, 0, none⟩) ss.length cap) ∧ wr.cell? ⟨w2.heap.size, 1, none⟩ = some (.slice (some ⟨w2.heap.size + 1, 0, none⟩) 0 0) ∧ w2.heap.size < wr.heap.size ∧ Below w.heap.size w wr) (fun i _ => ws.length - (intOf i).toNat)
    case atStart =>
      exact ⟨0, Nat.zero_le _, rfl, (hS2.al _).al _, (r2.al _).al _, cell_later (bel_two _ _ _) d1, cell_later (bel_one _ _) (cell_new w2 _ 27 _ rfl 0 _ rfl), cell_later (bel_one _ _) (cell_new w2 _ 27 _ rfl 1 _ rfl), by simp; omega, (hbw2.alloc hbw2.size _).alloc (Nat.le_trans hbw2.size (by simp)) _⟩
    case round =>
      obtain ⟨j, hj, rfl, hN, r, k1, k2, k3, hzr, hb⟩ := hrel
      by_cases hlt : j < ws.length
      · obtain ⟨co, cc, rfl, hu⟩ := hv2.later hb
        obtain ⟨b', o', rfl, m1, m2⟩ := hu j hlt
        have hrange := okW_range (HALL.out j hlt)
        have hsucc := crashN_succ bs tn ss ws j
        generalize hs : ws.getD j wr0 = s at *
        obtain ⟨s1, s2⟩ := s
        obtain ⟨x0, x63, x256⟩ := hrange
        dsimp only at x0 x63 x256
        obtain ⟨k, rfl⟩ := Int.eq_ofNat_of_zero_le x0
        have hkn : k < ss.length := by omega
        have ho256 := HSZ.out j hj k
        have hlen : (crashN bs tn ss ws j).length = ss.length := crashN_length bs tn ss ws j
        obtain ⟨b2, cap2, e2, hg1, hg2, hcell, hfrz⟩ := hN.form (by omega)
        simp only [Value.slice.injEq, Option.some.injEq, Addr.mk.injEq, and_true] at e2
        obtain ⟨rfl, enn, rfl⟩ := e2
        clear enn
        have t1 := hcell k (by omega)
        have t2 := hfrz k
        have HS : Hid (crashN bs tn ss ws (j + 1) = stepC bs tn (crashN bs tn ss ws j) (j, ((k : Int), s2))) := hsucc
        generalize hold : (crashN bs tn ss ws j).getD k ByteArray.empty = old at *
        have HO : Hid ((crashN bs tn ss ws j).getD k ByteArray.empty = old) := hold
        have R : ∀ (T : ByteArray), crashN bs tn ss ws (j + 1) = (crashN bs tn ss ws j).set k T → NS w1.heap.size ((wr.setCell ⟨b, k, none⟩ (.string T)).alloc (.cells #[.int .i64 k, .string s2] 42)) (.slice (some ⟨b, 0, none⟩) ss.length cap) (crashN bs tn ss ws (j + 1)) := fun T e => by
          rw [e]
          exact (hN.put T (k := k) (by omega)).al _
        have RR : Hid (∀ (T : ByteArray), crashN bs tn ss ws (j + 1) = (crashN bs tn ss ws j).set k T → NS w1.heap.size ((wr.setCell ⟨b, k, none⟩ (.string T)).alloc (.cells #[.int .i64 k, .string s2] 42)) (.slice (some ⟨b, 0, none⟩) ss.length cap) (crashN bs tn ss ws (j + 1))) := R
        clear hs hsucc hu hcell hfrz hold R
        by_cases hte : (j : Int) = tn
        · have te : ((j : Int) == tn) = true := by simp [hte]
          have HT : Hid ((j : Int) = tn) := hte
          clear hte
          have e1 : crashN bs tn ss ws (j + 1) = (crashN bs tn ss ws j).set k (torn s2 old) := by
            rw [HS.out]
            unfold stepC
            rw [if_pos HT.out, Int.toNat_natCast, HO.out]
          have E1 : Hid (crashN bs tn ss ws (j + 1) = (crashN bs tn ss ws j).set k (torn s2 old)) := e1
          clear e1
          by_cases hol : old.size ≤ s2.size / 2
          · have hol' : ¬ ((s2.size : Int) / 2 < (old.size : Int)) := by omega
            clear hlen hS2 hbw2 r2 d1 hb2 hb0 hv1 hv2 hN
            go_wp2
            go_roundw
            case rel => exact ⟨j + 1, by omega, by go_num, RR.out _ (by rw [E1.out, torn_head s2 old hol]), (r.put (by omega)).al _, cell_later (bel_one _ _) (cell_put (by omega) k1), cell_later (bel_one _ _) (cell_put (by omega) k2), cell_later (bel_one _ _) (cell_put (by omega) k3), by simp; omega, (hb.setCell (p := ⟨b, k, none⟩) (by simp; omega) _).alloc (by have := hb.size; simp; omega) _⟩
            case measure => simp [intOf]; omega
          · have hol' : ((s2.size : Int) / 2 < (old.size : Int)) := by omega
            clear hlen hS2 hbw2 r2 d1 hb2 hb0 hv1 hv2 hN
            go_wp2
            go_roundw
            case rel => exact ⟨j + 1, by omega, by go_num, RR.out _ (by rw [E1.out, torn_long s2 old (by omega)]), (r.put (by omega)).al _, cell_later (bel_one _ _) (cell_put (by omega) k1), cell_later (bel_one _ _) (cell_put (by omega) k2), cell_later (bel_one _ _) (cell_put (by omega) k3), by simp; omega, (hb.setCell (p := ⟨b, k, none⟩) (by simp; omega) _).alloc (by have := hb.size; simp; omega) _⟩
            case measure => simp [intOf]; omega
        · have te : ((j : Int) == tn) = false := by simp [hte]
          have HT : Hid (¬ (j : Int) = tn) := hte
          clear hte
          obtain ⟨lo, lc, rfl, hl⟩ := hvl.later hb
          by_cases hjl : j < bs.length
          · obtain ⟨bl, ol, rfl, hlc⟩ := hl j hjl
            have hbl : bl < wr.heap.size := World.block_lt_of_cell? _ _ hlc
            have tl : decide ((j : Int) < (bs.length : Int)) = true := by simp; omega
            cases hbj : bs.getD j false
            · rw [hbj] at hlc
              have e1 : crashN bs tn ss ws (j + 1) = crashN bs tn ss ws j := by
                rw [HS.out]
                unfold stepC
                rw [if_neg HT.out, if_neg (by simp only; rw [hbj]; simp)]
              have E1 : Hid (crashN bs tn ss ws (j + 1) = crashN bs tn ss ws j) := e1
              clear e1 hbj hl hlen hS2 hbw2 r2 d1 hb2 hb0 hv1 hv2
              go_wp2
              go_roundw
              case rel => exact ⟨j + 1, by omega, by go_num, by rw [E1.out]; exact hN.al _, r.al _, cell_later (bel_one _ _) k1, cell_later (bel_one _ _) k2, cell_later (bel_one _ _) k3, by simp; omega, hb.alloc hb.size _⟩
              case measure => simp [intOf]; omega
            · rw [hbj] at hlc
              have e1 : crashN bs tn ss ws (j + 1) = (crashN bs tn ss ws j).set k s2 := by
                rw [HS.out]
                unfold stepC
                rw [if_neg HT.out, if_pos (by simp only; exact hbj), Int.toNat_natCast]
              have E1 : Hid (crashN bs tn ss ws (j + 1) = (crashN bs tn ss ws j).set k s2) := e1
              clear e1 hbj hl hlen hS2 hbw2 r2 d1 hb2 hb0 hv1 hv2 hN
              go_wp2
              go_roundw
              case rel => exact ⟨j + 1, by omega, by go_num, RR.out _ E1.out, (r.put (by omega)).al _, cell_later (bel_one _ _) (cell_put (by omega) k1), cell_later (bel_one _ _) (cell_put (by omega) k2), cell_later (bel_one _ _) (cell_put (by omega) k3), by simp; omega, (hb.setCell (p := ⟨b, k, none⟩) (by simp; omega) _).alloc (by have := hb.size; simp; omega) _⟩
              case measure => simp [intOf]; omega
          · have tl : decide ((j : Int) < (bs.length : Int)) = false := by simp; omega
            have e1 : crashN bs tn ss ws (j + 1) = crashN bs tn ss ws j := by
              rw [HS.out]
              unfold stepC
              rw [if_neg HT.out, if_neg (by simp [hjl])]
            have E1 : Hid (crashN bs tn ss ws (j + 1) = crashN bs tn ss ws j) := e1
            clear e1 hl hlen hS2 hbw2 r2 d1 hb2 hb0 hv1 hv2
            go_wp2
            go_roundw
            case rel => exact ⟨j + 1, by omega, by go_num, by rw [E1.out]; exact hN.al _, r.al _, cell_later (bel_one _ _) k1, cell_later (bel_one _ _) k2, cell_later (bel_one _ _) k3, by simp; omega, hb.alloc hb.size _⟩
            case measure => simp [intOf]; omega
      · obtain rfl : j = ws.length := by omega
        obtain ⟨co, cc, rfl, _⟩ := hv2.later hb
        have q0 := r.1
        have q1 := r.2.1
        have f0 := r.2.2.1
        have f1 := r.2.2.2.1
        have zr : w.heap.size + 1 < wr.heap.size := r.2.2.2.2
        have P1 := (hN.aside (c := w.heap.size + 1) (o := 0) (.slice (some ⟨b, 0, none⟩) ss.length cap) (by omega)).aside (c := w.heap.size + 1) (o := 1) (.slice (some ⟨w2.heap.size + 1, 0, none⟩) 0 0) (by omega)
        have P2 := (hb.setCell (p := ⟨w.heap.size + 1, 0, none⟩) (by simp) (.slice (some ⟨b, 0, none⟩) ss.length cap)).setCell (p := ⟨w.heap.size + 1, 1, none⟩) (by simp) (.slice (some ⟨w2.heap.size + 1, 0, none⟩) 0 0)
        clear hS2 hbw2 r2 d1 hb2 hb0 hv1 hv2 r hN
        go_wp2
        exact bodyPost_ret (v := .agg #[.slice (some ⟨b, 0, none⟩) ss.length cap, .slice (some ⟨w2.heap.size + 1, 0, none⟩) 0 0]) (by simp [results, Try.results15, go_sem, q0, q1]) rfl ⟨_, _, rfl, by rw [E6.out]; exact ND_of (P1.mono (by omega)) (nw_empty _ _ _ _), P2⟩

end Go.Proofs.Ytddocjmjianajaa.Disk

/- See of the model and of the program. -/
namespace Go.Proofs.Ytddocjmjianajaa.Disk
open Go.RowKit Go.Shelf Go.Deep

attribute [local go_sem] Oper.semAt_some

def seeT (ss : List ByteArray) (ws : List Wr) (s : Int) : ByteArray := if okD ss ws = true ∧ okN s = true then (holdN ss ws ws.length).getD s.toNat ByteArray.empty else ByteArray.empty
/-- The text of a sector behind some of the late writes. -/
def seeF (s : Int) (t0 : ByteArray) (pre : List NW1) : ByteArray := pre.foldl (fun t x => if x.2.1 = s then x.2.2 else t) t0
theorem seeF_snoc (s : Int) (t0 : ByteArray) (pre : List NW1) (x : NW1) : seeF s t0 (pre ++ [x]) = if x.2.1 = s then x.2.2 else seeF s t0 pre := by simp [seeF]

theorem seeF_num (ss : List ByteArray) (ws : List Wr) (k : Nat) (hk : k < ss.length) (hall : ∀ i, i < ws.length → okW (ws.getD i wr0) = true) :
    ∀ j, j ≤ ws.length → seeF (k : Int) (ss.getD k ByteArray.empty) (num ws j) = (holdN ss ws j).getD k ByteArray.empty := by
  intro j
  induction j with
  | zero => intro _; rw [holdN_zero]; rfl
  | succ j ih =>
    intro hj
    rw [num_succ, seeF_snoc, ih (by omega), holdN_succ ss ws j (by omega)]
    have hr := okW_range (hall j (by omega))
    generalize ws.getD j wr0 = x at *
    obtain ⟨x1, x2⟩ := x
    obtain ⟨a, rfl⟩ := Int.eq_ofNat_of_zero_le hr.1
    have hl := holdN_length ss ws j
    show (if (a : Int) = (k : Int) then x2 else (holdN ss ws j).getD k ByteArray.empty) = ((holdN ss ws j).set a x2).getD k ByteArray.empty
    by_cases e : a = k
    · subst e
      have : a < (holdN ss ws j).length := by omega
      simp [this]
    · have e' : ¬ (a : Int) = (k : Int) := by omega
      rw [if_neg e']
      simp [List.getD_eq_getElem?_getD, e]

theorem seeF_size (s : Int) (t0 : ByteArray) (ws : List Wr) (h0 : t0.size ≤ 256) (hall : ∀ i, i < ws.length → okW (ws.getD i wr0) = true) : ∀ j, j ≤ ws.length → (seeF s t0 (num ws j)).size ≤ 256 := by
  intro j
  induction j with
  | zero => intro _; exact h0
  | succ j ih =>
    intro hj
    rw [num_succ, seeF_snoc]
    have hr := okW_range (hall j (by omega))
    split
    · exact hr.2.2
    · exact ih (by omega)

set_option maxRecDepth 100000 in
set_option maxHeartbeats 2000000 in
theorem implSee_any (v1 v2 : Value) (ss : List ByteArray) (ws : List Wr) (s : Int) (w : World) (hv1 : SR w v1 ss) (hv2 : WR w v2 ws) (h1 : ss.length ≤ 10000000000000) (h2 : ws.length ≤ 10000000000000) :
    Calls Try.prog 11 #[.agg #[v1, v2], .int .i64 s] w fun e w' => e = .returned (.string (seeT ss ws s)) ∧ Below w.heap.size w w' := by
  have hb0 := bel_two w (.cells #[v1, v2] 27) (.cells #[.int .i64 s] 2)
  refine (callsIn_wide (n := 9)).1 ?_
  refine callsIn_of_wp_marks Try.func11 rfl trivial ?_ rfl
  simp only [Try.ntmps11, List.size_toArray, List.length_cons, List.length_nil, Nat.reduceAdd, Nat.reduceSub, Array.replicate_succ, Array.replicate_zero, List.push_toArray, List.append_toArray, List.nil_append, List.cons_append]
  gi_wp2_with (fail)
  refine ⟨trivial, (callsIn_wide.2 (implDiskOk_any _ _ ss ws _ (hv1.later hb0) (hv2.later hb0) h1 h2)).mono ?_⟩
  rintro e w1 ⟨rfl, hb1⟩
  have hbw1 : Below w.heap.size w w1 := hb0.trans (hb1.mono (by simp; omega))
  have c0 : w1.cell? ⟨w.heap.size, 0, none⟩ = some v1 := cell_later hb1 (cell_later (bel_one _ _) (cell_new w #[v1, v2] 27 _ rfl 0 _ rfl))
  have c1 : w1.cell? ⟨w.heap.size, 1, none⟩ = some v2 := cell_later hb1 (cell_later (bel_one _ _) (cell_new w #[v1, v2] 27 _ rfl 1 _ rfl))
  have bS : Boxed w1 (w.heap.size + 1) 2 (.int .i64 s) := by
    have h := Boxed.new (w.alloc (.cells #[v1, v2] 27)) 2 (.int .i64 s)
    rw [World.size_alloc] at h
    exact (hb1.block _ (by simp)).trans h
  have c2 := bS.cell
  have hz0 : w.heap.size < w1.heap.size := World.block_lt_of_cell? _ _ c0
  have hz1 : w.heap.size + 1 < w1.heap.size := bS.lt
  cases hok : okD ss ws
  · have HK : Hid (okD ss ws = false) := hok
    clear hok
    gi_wp2
    refine ⟨trivial, ?_⟩
    gi_wp2
    exact ⟨.string ⟨#[]⟩, by simp [results, Try.f11], ret_str (by unfold seeT; rw [if_neg (by rw [HK.out]; simp)]; rfl), hbw1⟩
  · have HK : Hid (okD ss ws = true) := hok
    clear hok
    gi_wp2_with (fail)
    refine ⟨trivial, (callsIn_wide.2 (isSector_any _ _)).mono ?_⟩
    rintro e w1 ⟨rfl, rfl⟩
    cases hN : okN s
    · have HN : Hid (okN s = false) := hN
      clear hN
      gi_wp2
      exact ⟨.string ⟨#[]⟩, by simp [results, Try.f11], ret_str (by unfold seeT; rw [if_neg (by rw [HN.out]; simp)]; rfl), hbw1⟩
    · have hr : 0 ≤ s ∧ s ≤ 63 := by simpa [okN] using hN
      obtain ⟨k, rfl⟩ := Int.eq_ofNat_of_zero_le hr.1
      have HN : Hid (okN (k : Int) = true) := hN
      clear hN
      obtain ⟨l64, l200, hsz, hall⟩ := okD_all HK.out
      have hkn : k < ss.length := by omega
      have HT : Hid (seeT ss ws (k : Int) = (holdN ss ws ws.length).getD k ByteArray.empty) := (by
        unfold seeT
        rw [if_pos ⟨HK.out, HN.out⟩]
        rfl : seeT ss ws (k : Int) = (holdN ss ws ws.length).getD k ByteArray.empty)
      have HF : Hid (seeF (k : Int) (ss.getD k ByteArray.empty) (num ws ws.length) = (holdN ss ws ws.length).getD k ByteArray.empty) := seeF_num ss ws k hkn hall ws.length (Nat.le_refl _)
      have HZ : Hid ((seeF (k : Int) (ss.getD k ByteArray.empty) (num ws ws.length)).size ≤ 256) := seeF_size _ _ ws (hsz k hkn) hall ws.length (Nat.le_refl _)
      have hv2' := hv2
      obtain ⟨ao, cap, rfl, hv⟩ := hv1
      obtain ⟨bo, cbp, rfl, hu⟩ := hv2
      clear hu
      obtain ⟨b, o, rfl, hc⟩ := hv k hkn
      have hc1 := cell_later hbw1 hc
      generalize ss.getD k ByteArray.empty = t0 at *
      clear hv hc l64 hsz hall hr
      gi_wp2_with (fail)
      refine ⟨trivial, (inOrder_in Fence.wide _ trivial rfl _ _ _ _).mono ?_⟩
      rintro e w3 ⟨rfl, rfl⟩
      gi_wp2_with (fail)
      obtain ⟨W0, hW0⟩ : ∃ W0, (w1.alloc (.cells #[.string t0] 9)).alloc (.cells #[.slice bo ws.length cbp] 25) = W0 := ⟨_, rfl⟩
      have hB0 : Below w.heap.size w W0 := by rw [← hW0]; exact (hbw1.alloc hbw1.size _).alloc (Nat.le_trans hbw1.size (by simp)) _
      have bT : Boxed W0 w1.heap.size 9 (.string t0) := by rw [← hW0]; exact (Boxed.new w1 9 (.string t0)).alloc _
      have bS0 : Boxed W0 (w.heap.size + 1) 2 (.int .i64 k) := by rw [← hW0]; exact (bS.alloc _).alloc _
      have cB : W0.cell? ⟨w1.heap.size + 1, 0, none⟩ = some (.slice bo ws.length cbp) := by
        rw [← hW0]
        exact cell_new _ #[.slice bo ws.length cbp] 25 _ (by simp) 0 _ rfl
      have hsz : W0.heap.size = w1.heap.size + 2 := by rw [← hW0]; simp
      rw [hW0]
      clear hW0 hb1 hb0
      refine wpIn_rangeFunc_ownH (F := Fence.wide) (n := 9) rfl (by omega) (gf := 38) (lb := #[.pointer (some ⟨w1.heap.size + 1, 0, none⟩)]) rfl trivial (enters_of Try.func38 (by kernel_rfl) rfl)
        (inOrder_stops Fence.wide (9 - 1) trivial rfl (by omega) (w1.heap.size + 1) w _ ws hv2' h2 W0 hB0 cB) belowK_t (belowK_b (by omega)) (Below.refl _ _) (fun _ => rfl)
        (fun pre W => (Boxed W w1.heap.size 9 (.string (seeF (k : Int) t0 pre)) ∧ Boxed W (w.heap.size + 1) 2 (.int .i64 k)) ∧ Below w.heap.size w W)
        (fun _ _ _ => False)
        (OwnFrom.and (OwnFrom.and (Own.from (boxed_own _ _ _) _) (Own.from (boxed_own _ _ _) _)) (ownFrom_below (Nat.le_refl _) (by omega)))
        (fun _ _ _ _ _ hs _ _ => hs)
        ⟨⟨bT, bS0⟩, hB0⟩
        (fun x a' W => ∃ Bx, w1.heap.size < Bx ∧ W.heap[Bx]? = some (.cells #[.int .i64 x.2.1, .string x.2.2] 42 (0, 0)) ∧ a' = { tmps := #[Value.agg #[Value.slice (some { block := b, off := o }) ss.length cap, Value.slice bo ws.length cbp], Value.int IntKind.i64 ↑k, Value.pointer (some { block := w.heap.size, off := 0 }), Value.pointer (some { block := w.heap.size + 1, off := 0 }), Value.string { data := #[] }, Value.pointer (some { block := w1.heap.size, off := 0 }), undef, Value.pointer (some ⟨Bx, 0, none⟩), Value.agg #[Value.slice (some { block := b, off := o }) ss.length cap, Value.slice bo ws.length cbp], Value.bool true, Value.bool false, Value.bool false, Value.int IntKind.i64 ↑k, Value.bool true, Value.bool false, Value.bool false, Value.pointer (some { block := w.heap.size, off := 0 }), Value.slice (some { block := b, off := o }) ss.length cap, Value.int IntKind.i64 ↑k, Value.pointer (some { block := b, off := o + k }), Value.string t0, Value.pointer (some { block := w.heap.size, off := 1 }), Value.slice bo ws.length cbp, Value.func (Fn.func 38) #[] #[Value.pointer (some { block := w1.heap.size + 1, off := 0 })], .int .i64 x.1, .agg #[.int .i64 x.2.1, .string x.2.2], undef, undef, undef, undef, undef, undef, undef, undef], defers := [] })
        (fun x a' _ X Y row hs hg hr => by obtain ⟨Bx, h1, h2, h3⟩ := hs; exact ⟨Bx, h1, cells_own h2 hg (fun r e => (hr r e).2), h3⟩)
        ?assign ?body ?done ?stop
      case assign =>
        rintro l pre x W K ⟨⟨bT1, bS1⟩, hB1⟩ hK
        dsimp only [enc2]
        gi_wp2
        exact hK _ _ ((KeepsOthers.alloc _ _).from _) ((Below.refl _ W).alloc hB1.size _) ⟨⟨bT1.alloc _, bS1.alloc _⟩, hB1.alloc hB1.size _⟩ ⟨W.heap.size, bT1.lt, World.alloc_heap_new W _, rfl⟩
      case body =>
        rintro l pre ⟨i, s1, s2⟩ a' W hl ⟨r, hr⟩ ⟨⟨bT1, bS1⟩, hB1⟩ ⟨Bx, hBx, bX, rfl⟩ hlt
        dsimp only at bX ⊢
        have cX0 : W.cell? ⟨Bx, 0, none⟩ = some (.int .i64 s1) := by simp [World.cell?, bX]
        have cX1 : W.cell? ⟨Bx, 1, none⟩ = some (.string s2) := by simp [World.cell?, bX]
        have cT := bT1.cell
        have fT := bT1.frozen
        have cS := bS1.cell
        clear bX
        by_cases hsk : s1 = (k : Int)
        · have te : (s1 == (k : Int)) = true := by simp [hsk]
          have HSK : Hid (s1 = (k : Int)) := hsk
          clear hsk
          gi_wp2
          exact ⟨(KeepsOthers.setCell _ _ _).from _, (Below.refl _ W).setCell (p := ⟨w1.heap.size, 0, none⟩) (by simp; omega) _, ⟨⟨by rw [seeF_snoc, if_pos HSK.out]; exact bT1.set _, bS1.other (by omega) _⟩, hB1.setCell (p := ⟨w1.heap.size, 0, none⟩) (by simp; omega) _⟩⟩
        · have te : (s1 == (k : Int)) = false := by simp [hsk]
          have HSK : Hid (¬ s1 = (k : Int)) := hsk
          clear hsk
          gi_wp2
          exact ⟨KeepsFrom.refl _ _, Below.refl _ _, ⟨⟨by rw [seeF_snoc, if_neg HSK.out]; exact bT1, bS1⟩, hB1⟩⟩
      case done =>
        rintro D ys W hD rfl ⟨⟨bT1, bS1⟩, hB1⟩ hK
        have cT := bT1.cell
        gi_wp2_with (fail)
        refine ⟨trivial, (callsIn_wide.2 (copyText_any _ _ (by have := HZ.out; omega))).mono ?_⟩
        rintro e w5 ⟨rfl, hb5⟩
        have hK5 : w5.heap[D]? = some (.deferred (some [])) := (hb5.block D (Array.getElem?_eq_some_iff.1 hK).1).trans hK
        have hbw5 := bel_then hB1 hB1.size hb5
        gi_wp2
        refine ⟨by simp, .inl ⟨_, _, rfl, run_takeDeferred hK5, ?_⟩⟩
        exact ⟨.string (seeF (k : Int) t0 (num ws ws.length)), by simp [results, Try.f11], ret_str (by rw [HT.out, HF.out]), hbw5.trans (belowK_b (w := w) (Nat.le_refl _) w5 D _ _ (by omega) hK5 rfl rfl)⟩
      case stop =>
        rintro D c pre W _ _ h _
        exact h.elim

theorem field0 (x : Option Addr) (n c : Nat) (u : Value) (w : World) : (Instr.field 27 (.agg #[.slice x n c, u]) 0).run Try.prog w = .ok (.slice x n c) w := by kernel_rfl

theorem okN_dec (s : Int) : decide (0 ≤ s ∧ s ≤ 63) = okN s := rfl


end Go.Proofs.Ytddocjmjianajaa.Disk
