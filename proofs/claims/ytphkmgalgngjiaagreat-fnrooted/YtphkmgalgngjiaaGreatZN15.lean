import Derived.Test.YtphkmgalgngjiaaGreatZN12
import Derived.Test.YtphkmgalgngjiaaGreatZN14
import Derived.Test.YtphkmgalgngjiaaGreatZN13
/- What the model's operations answer for a heap with short lists. -/
namespace Go.Proofs.YtphkmgalgngjiaaGreat
open Go.RowKit

/-- A heap and a bool. -/
def OpOut (B : Nat) (e : Ending) (w' : World) : Prop := ∃ u b t, e = .returned (.tuple #[u, .bool b]) ∧ HM B w' u t ∧ Sm t ∧ (b = true → t.words.length = 3200)
theorem sm_zero : Sm zeroH := ⟨Nat.zero_le _, Nat.zero_le _, Nat.zero_le _⟩
theorem Sm.big {t : Hp} (h : Sm t) : t.words.length ≤ 1000000000000 ∧ t.roots.length ≤ 1000000000000 ∧ t.kept.length ≤ 1000000000000 := by
  obtain ⟨a, b, c⟩ := h
  omega
theorem kAdd {w : World} {v : Value} {t : Hp} (hv : HR w v t) (s : Sm t) (x : Int) (hx : In64 x) :
    Calls Tryz.prog 20 #[v, .int .i64 x] w fun e w' => OpOut w.heap.size e w' ∧ Below w.heap.size w w' := by
  obtain ⟨b1, b2, b3⟩ := s.big
  refine (specAddRoot_m v t x w hv b1 b2 b3 hx).mono fun e w' ⟨⟨u, e1, k⟩, b⟩ => ⟨⟨u, _, _, e1, k, ?_, fun q => by unfold addC; rw [if_pos q]; unfold addB at q; rw [Bool.and_eq_true] at q; exact (ok_len q.1).1⟩, b⟩
  unfold addC
  split
  · rename_i q
    unfold addB at q
    rw [Bool.and_eq_true, Bool.and_eq_true] at q
    have := (ok_len q.1).2.2.2.2.2
    have n20 : ¬ t.roots.length = 20 := by simpa using q.2.2
    refine ⟨s.1, ?_, s.2.2⟩
    show (t.roots ++ [x]).length ≤ 20
    rw [List.length_append, List.length_singleton]
    omega
  · exact sm_zero
theorem kSetR {w : World} {v : Value} {t : Hp} (hv : HR w v t) (s : Sm t) (i x : Int) (hx : In64 x) :
    Calls Tryz.prog 23 #[v, .int .i64 i, .int .i64 x] w fun e w' => OpOut w.heap.size e w' ∧ Below w.heap.size w w' := by
  obtain ⟨b1, b2, b3⟩ := s.big
  refine (specSetRoot_m v t i x w hv b1 b2 b3 hx).mono fun e w' ⟨⟨u, e1, k⟩, b⟩ => ⟨⟨u, _, _, e1, k, ?_, fun q => by unfold setC; rw [if_pos q]; unfold setB at q; rw [Bool.and_eq_true] at q; exact (ok_len q.1).1⟩, b⟩
  unfold setC
  split
  · refine ⟨s.1, ?_, s.2.2⟩
    show (t.roots.set i.toNat x).length ≤ 20
    rw [List.length_set]
    exact s.2.1
  · exact sm_zero
theorem kPut {w : World} {v : Value} {t : Hp} (hv : HR w v t) (s : Sm t) (x i y : Int) (hx : In64 x) (hy : In64 y) :
    Calls Tryz.prog 27 #[v, .int .i64 x, .int .i64 i, .int .i64 y] w fun e w' => OpOut w.heap.size e w' ∧ Below w.heap.size w w' := by
  obtain ⟨b1, b2, b3⟩ := s.big
  refine (specSet_m v t x i y w hv b1 b2 b3 hx hy).mono fun e w' ⟨⟨u, e1, k⟩, b⟩ => ⟨⟨u, _, _, e1, k, ?_, fun q => by unfold putC; rw [if_pos q]; unfold putB at q; rw [Bool.and_eq_true] at q; show (t.words.set _ _).length = 3200; rw [List.length_set]; exact (ok_len q.1).1⟩, b⟩
  unfold putC
  split
  · refine ⟨?_, s.2.1, ?_⟩
    · show (t.words.set _ _).length ≤ 3200
      rw [List.length_set]
      exact s.1
    · show (keptOf _ (obC t)).length ≤ 3200
      unfold keptOf
      rw [ints_length]
      exact Nat.le_trans (List.length_filter_le _ _) (ob_short t)
  · exact sm_zero
/-- A heap, a word and a bool; where it is true, eden has grown. -/
def NewOut (B : Nat) (t : Hp) (n : Int) (e : Ending) (w' : World) : Prop := ∃ u r b t', e = .returned (.tuple #[u, .int .i64 r, .bool b]) ∧ HM B w' u t' ∧ Sm t' ∧ In64 r ∧ (b = true → 2000 ≤ t.eden ∧ t'.eden = t.eden + 4 + n ∧ t'.eden ≤ 2600) ∧ (b = true → t'.words.length = 3200) ∧ (b = true → t.roots.length < 20 → addB t' r = true)
theorem kNew {w : World} {v : Value} {t : Hp} (hv : HR w v t) (s : Sm t) (c n : Int) :
    Calls Tryz.prog 9 #[v, .int .i64 c, .int .i64 n] w fun e w' => NewOut w.heap.size t n e w' ∧ Below w.heap.size w w' := by
  obtain ⟨b1, b2, b3⟩ := s.big
  refine (specNew_m v t c n w hv b1 b2 b3).mono fun e w' ⟨⟨u, e1, k⟩, b⟩ => ⟨⟨u, _, _, _, e1, k, ?_, ?_, ?_, fun q => by rw [new_yes q]; unfold newB at q; rw [Bool.and_eq_true] at q; show (((t.words.set _ _).set _ _).set _ _).length = 3200; rw [List.length_set, List.length_set, List.length_set]; exact (ok_len q.1).1, fun q hr => add_new q hr⟩, b⟩
  · unfold newC
    split
    · refine ⟨?_, s.2.1, s.2.2⟩
      show (((t.words.set _ _).set _ _).set _ _).length ≤ 3200
      rw [List.length_set, List.length_set, List.length_set]
      exact s.1
    · exact sm_zero
  · unfold newW' In64
    split
    · rename_i q
      unfold newB at q
      rw [Bool.and_eq_true] at q
      have := ok_len q.1
      omega
    · omega
  · intro q
    have q' := q
    unfold newB at q
    rw [Bool.and_eq_true, Bool.and_eq_true, Bool.and_eq_true, Bool.and_eq_true] at q
    have o := ok_len q.1
    have e5 := of_decide_eq_true q.2.2.2.2
    unfold newC
    rw [if_pos q']
    refine ⟨o.2.1, rfl, ?_⟩
    show t.eden + 4 + n ≤ 2600
    exact e5
set_option maxRecDepth 100000 in
set_option maxHeartbeats 1600000 in
theorem specScavenge_no (v : Value) (h : Hp) (w : World) (hv : HR w v h) (hro : h.roots.length ≤ 1000000000000) (hke : h.kept.length ≤ 1000000000000) (hk : okC h = false) :
    Calls Tryz.prog 96 #[v] w fun e w' => e = .returned (.tuple #[.agg #[.slice none 0 0, .slice none 0 0, .int .i64 0, .int .i64 0, .int .i64 0, .bool false, .int .i64 0, .slice none 0 0], .bool false]) ∧ Below w.heap.size w w' := by
  obtain ⟨v1, v2, v3, rfl, i1, i2, i3⟩ := id hv
  obtain ⟨a1, c1, rfl, -⟩ := IRs i1
  obtain ⟨a2, c2, rfl, -⟩ := IRs i2
  obtain ⟨a3, c3, rfl, -⟩ := IRs i3
  have S0 := CS.new w (.slice a1 h.words.length c1) (.slice a2 h.roots.length c2) (.int .i64 h.old) (.int .i64 h.eden) (.int .i64 h.surv) (.bool h.flip) (.int .i64 h.hash) (.slice a3 h.kept.length c3)
  have C := specHeapOk_c _ h _ (hv.later S0.bel) hro hke
  rw [hk] at C
  clear i1 i2 i3
  go_enter Tryz.func96, Tryz.ntmps96
  go_wp2_with fail
  refine C.mono ?_
  rintro e w1 ⟨rfl, hb1⟩
  have S1 := S0.later hb1
  clear C S0 hb1
  obtain ⟨fk, K⟩ := S1.res
  have fR := fun i => K.frozen i
  have r0 := K.cell (i := 0) (by omega)
  have r1 := K.cell (i := 1) (by omega)
  have r2 := K.cell (i := 2) (by omega)
  have r3 := K.cell (i := 3) (by omega)
  have r4 := K.cell (i := 4) (by omega)
  have r5 := K.cell (i := 5) (by omega)
  have r6 := K.cell (i := 6) (by omega)
  have r7 := K.cell (i := 7) (by omega)
  have ltR := K.lt
  have B9 : Below w.heap.size w ((((((((w1.setCell ⟨w.heap.size + 1, 0, none⟩ (.slice none 0 0)).setCell ⟨w.heap.size + 1, 1, none⟩ (.slice none 0 0)).setCell ⟨w.heap.size + 1, 2, none⟩ (.int .i64 0)).setCell ⟨w.heap.size + 1, 3, none⟩ (.int .i64 0)).setCell ⟨w.heap.size + 1, 4, none⟩ (.int .i64 0)).setCell ⟨w.heap.size + 1, 5, none⟩ (.bool false)).setCell ⟨w.heap.size + 1, 6, none⟩ (.int .i64 0)).setCell ⟨w.heap.size + 1, 7, none⟩ (.slice none 0 0)) := by
    repeat (refine Below.setCell ?_ (p := ⟨w.heap.size + 1, _, none⟩) (Nat.le_succ _) _)
    exact S1.bel
  clear K S1
  go_wp2
  exact bodyPost_ret (v := .tuple #[.agg #[.slice none 0 0, .slice none 0 0, .int .i64 0, .int .i64 0, .int .i64 0, .bool false, .int .i64 0, .slice none 0 0], .bool false]) (by simp [results, Tryz.results96, go_sem, r0, r1, r2, r3, r4, r5, r6, r7]) rfl ⟨rfl, B9⟩
set_option maxRecDepth 100000 in
set_option maxHeartbeats 1600000 in
theorem specCompact_no (v : Value) (h : Hp) (w : World) (hv : HR w v h) (hro : h.roots.length ≤ 1000000000000) (hke : h.kept.length ≤ 1000000000000) (hk : okC h = false) :
    Calls Tryz.prog 97 #[v] w fun e w' => e = .returned (.tuple #[.agg #[.slice none 0 0, .slice none 0 0, .int .i64 0, .int .i64 0, .int .i64 0, .bool false, .int .i64 0, .slice none 0 0], .bool false]) ∧ Below w.heap.size w w' := by
  obtain ⟨v1, v2, v3, rfl, i1, i2, i3⟩ := id hv
  obtain ⟨a1, c1, rfl, -⟩ := IRs i1
  obtain ⟨a2, c2, rfl, -⟩ := IRs i2
  obtain ⟨a3, c3, rfl, -⟩ := IRs i3
  have S0 := CS.new w (.slice a1 h.words.length c1) (.slice a2 h.roots.length c2) (.int .i64 h.old) (.int .i64 h.eden) (.int .i64 h.surv) (.bool h.flip) (.int .i64 h.hash) (.slice a3 h.kept.length c3)
  have C := specHeapOk_c _ h _ (hv.later S0.bel) hro hke
  rw [hk] at C
  clear i1 i2 i3
  go_enter Tryz.func97, Tryz.ntmps97
  go_wp2_with fail
  refine C.mono ?_
  rintro e w1 ⟨rfl, hb1⟩
  have S1 := S0.later hb1
  clear C S0 hb1
  obtain ⟨fk, K⟩ := S1.res
  have fR := fun i => K.frozen i
  have r0 := K.cell (i := 0) (by omega)
  have r1 := K.cell (i := 1) (by omega)
  have r2 := K.cell (i := 2) (by omega)
  have r3 := K.cell (i := 3) (by omega)
  have r4 := K.cell (i := 4) (by omega)
  have r5 := K.cell (i := 5) (by omega)
  have r6 := K.cell (i := 6) (by omega)
  have r7 := K.cell (i := 7) (by omega)
  have ltR := K.lt
  have B9 : Below w.heap.size w ((((((((w1.setCell ⟨w.heap.size + 1, 0, none⟩ (.slice none 0 0)).setCell ⟨w.heap.size + 1, 1, none⟩ (.slice none 0 0)).setCell ⟨w.heap.size + 1, 2, none⟩ (.int .i64 0)).setCell ⟨w.heap.size + 1, 3, none⟩ (.int .i64 0)).setCell ⟨w.heap.size + 1, 4, none⟩ (.int .i64 0)).setCell ⟨w.heap.size + 1, 5, none⟩ (.bool false)).setCell ⟨w.heap.size + 1, 6, none⟩ (.int .i64 0)).setCell ⟨w.heap.size + 1, 7, none⟩ (.slice none 0 0)) := by
    repeat (refine Below.setCell ?_ (p := ⟨w.heap.size + 1, _, none⟩) (Nat.le_succ _) _)
    exact S1.bel
  clear K S1
  go_wp2
  exact bodyPost_ret (v := .tuple #[.agg #[.slice none 0 0, .slice none 0 0, .int .i64 0, .int .i64 0, .int .i64 0, .bool false, .int .i64 0, .slice none 0 0], .bool false]) (by simp [results, Tryz.results97, go_sem, r0, r1, r2, r3, r4, r5, r6, r7]) rfl ⟨rfl, B9⟩

theorem kAddN {w : World} {v : Value} {t : Hp} (hv : HR w v t) (s : Sm t) (x : Int) (hx : In64 x) (ha : addB t x = true) :
    Calls Tryz.prog 20 #[v, .int .i64 x] w fun e w' => (∃ u t', e = .returned (.tuple #[u, .bool true]) ∧ HM w.heap.size w' u t' ∧ Sm t' ∧ t'.words.length = 3200) ∧ Below w.heap.size w w' := by
  obtain ⟨b1, b2, b3⟩ := s.big
  refine (specAddRoot_m v t x w hv b1 b2 b3 hx).mono fun e w' ⟨⟨u, e1, k⟩, b⟩ => ⟨⟨u, _, by rw [← ha]; exact e1, k, ?_, ?_⟩, b⟩
  · unfold addC
    rw [if_pos ha]
    have q := ha
    unfold addB at q
    rw [Bool.and_eq_true, Bool.and_eq_true] at q
    have := (ok_len q.1).2.2.2.2.2
    have n20 : ¬ t.roots.length = 20 := by simpa using q.2.2
    refine ⟨s.1, ?_, s.2.2⟩
    show (t.roots ++ [x]).length ≤ 20
    rw [List.length_append, List.length_singleton]
    omega
  · unfold addC
    rw [if_pos ha]
    have q := ha
    unfold addB at q
    rw [Bool.and_eq_true] at q
    exact (ok_len q.1).1
theorem kScav {w : World} {v : Value} {t : Hp} (hv : HR w v t) (s : Sm t) :
    Calls Tryz.prog 96 #[v] w fun e w' => OpOut w.heap.size e w' ∧ Below w.heap.size w w' := by
  obtain ⟨b1, b2, b3⟩ := s.big
  cases hk : okC t
  · refine (specScavenge_no v t w hv b2 b3 hk).mono fun e w' ⟨e1, b⟩ => ⟨⟨_, _, _, e1, zero_hm _ _, sm_zero, fun q => by cases q⟩, b⟩
  · refine (specScavenge_any v t _ (c_right hk) hk w hv).mono fun e w' ⟨q, b⟩ => ⟨?_, b⟩
    rcases q with ⟨u, e1, k, _⟩ | ⟨u, fs, l2, e1, k, S, _, P, _⟩
    · exact ⟨u, _, _, e1, k, sm_zero, fun q => by cases q⟩
    · refine ⟨u, _, _, e1, k, ⟨?_, ?_, ?_⟩, fun _ => by show (finW t fs.W).length = 3200; unfold finW; rw [zr_len, zr_len, S.len]⟩
      · show (finW t fs.W).length ≤ 3200
        unfold finW
        rw [zr_len, zr_len, S.len]
        exact Nat.le_refl _
      · show (rtL t t.roots.length).length ≤ 20
        rw [rtL_len t (Nat.le_refl _)]
        exact s.2.1
      · show (ints (keptS (finW t fs.W) l2)).length ≤ 3200
        rw [ints_length]
        exact Nat.le_trans (List.length_filter_le _ _) P.short
theorem kComp {w : World} {v : Value} {t : Hp} (hv : HR w v t) (s : Sm t) :
    Calls Tryz.prog 97 #[v] w fun e w' => OpOut w.heap.size e w' ∧ Below w.heap.size w w' := by
  obtain ⟨b1, b2, b3⟩ := s.big
  cases hk : okC t
  · refine (specCompact_no v t w hv b2 b3 hk).mono fun e w' ⟨e1, b⟩ => ⟨⟨_, _, _, e1, zero_hm _ _, sm_zero, fun q => by cases q⟩, b⟩
  · refine (specCompact_any v t _ (c_right hk) w hv).mono fun e w' ⟨⟨i, _, q⟩, b⟩ => ⟨?_, b⟩
    rcases q with ⟨u, e1, k, _⟩ | ⟨u, e1, k, _⟩
    · exact ⟨u, _, _, e1, k, sm_zero, fun q => by cases q⟩
    · refine ⟨u, _, _, e1, k, ⟨?_, ?_, Nat.zero_le _⟩, fun _ => cfS_len _ _ _ _⟩
      · show (cfS _ _ _ _).length ≤ 3200
        rw [cfS_len]
        exact Nat.le_refl _
      · show (t.roots.map _).length ≤ 20
        rw [List.length_map]
        exact s.2.1

end Go.Proofs.YtphkmgalgngjiaaGreat

/- The draw of a heap: what its regions are taken by. -/
namespace Go.Proofs.YtphkmgalgngjiaaGreat
open Go.RowKit

/-- The region of this number. -/
def regOf (n : Nat) : Code → Option Code
  | .region i ops d => if i = n then some (.region i ops d) else none
  | .seq a b => match regOf n a with
    | some c => some c
    | none => regOf n b
  | .block _ c => regOf n c
  | .scope c => regOf n c
  | .loop c => regOf n c
  | .cond _ a b => match regOf n a with
    | some c => some c
    | none => regOf n b
  | _ => none
/-- The block of this number. -/
def blkOf (n : Nat) : Code → Option Code
  | .block i c => if i = n then some (.block i c) else blkOf n c
  | .seq a b => match blkOf n a with
    | some c => some c
    | none => blkOf n b
  | .scope c => blkOf n c
  | .loop c => blkOf n c
  | .cond _ a b => match blkOf n a with
    | some c => some c
    | none => blkOf n b
  | _ => none
noncomputable def blk4 : Code := ((Tryz.f65.body.bind (blkOf 4)).getD .skip)
theorem box_new {W cur : World} {N : Nat} {cv : Value} {cs : List UInt8} (hs : Sx W N cv cs cur) (hN : N < W.heap.size) : ∃ wa SB, wa = cur.alloc (.cells #[.slice none 0 0, .slice none 0 0, .int .i64 0, .int .i64 0, .int .i64 0, .bool false, .int .i64 0, .slice none 0 0] 26) ∧ SB = cur.heap.size ∧ Sx W N cv cs wa ∧ (∃ f, wa.rowIs SB 26 8 f) ∧ W.heap.size ≤ SB ∧ Below cur.heap.size cur wa :=
  ⟨_, _, rfl, rfl, hs.more (bel_one _ _) hN, ⟨_, row_any cur #[.slice none 0 0, .slice none 0 0, .int .i64 0, .int .i64 0, .int .i64 0, .bool false, .int .i64 0, .slice none 0 0] 26⟩, hs.1.size, bel_one _ _⟩
theorem wrap_in (x : Int) : In64 (wrap64 x) := by
  unfold In64 wrap64
  omega


end Go.Proofs.YtphkmgalgngjiaaGreat
