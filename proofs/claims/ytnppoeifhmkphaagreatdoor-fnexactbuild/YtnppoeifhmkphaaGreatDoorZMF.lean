import Derived.Test.YtnppoeifhmkphaaGreatDoorZMA
/- Heaps in the laws: szHeap, toHeap, eqHeap, markHeap, heldHeap. -/
namespace Go.Proofs.YtnppoeifhmkphaaGreatDoor
open Go.RowKit

theorem IRs {w : World} {v : Value} {l : List Int} (h : IR w v l) : ∃ ao cap, v = .slice ao l.length cap ∧ l.length ≤ cap := by
  obtain ⟨ao, cap, e, hc, _⟩ := h
  exact ⟨ao, cap, e, hc⟩
theorem szInt64S_any (v : Value) (l : List Int) (x : Int) (w : World) (hv : IR w v l) (h1 : l.length ≤ 1000000000000000) (x0 : 0 ≤ x) (x1 : x ≤ 1048576) :
    Calls Tryz.prog 16 #[v, .int .i64 x] w fun e w' => (∃ y, e = .returned (.int .i64 y) ∧ Hid (0 ≤ y → (l.length : Int) ≤ 1048576 ∧ y ≤ 1048576)) ∧ w' = w := by
  obtain ⟨ao, cap, rfl, _⟩ := IRs hv
  clear hv
  by_cases hx : x - l.length < 0
  · go_enter Tryz.func16, Tryz.ntmps16
    go_wp2
    go_ret
    exact ⟨⟨-1, rfl, (fun h => by omega)⟩, rfl⟩
  · go_enter Tryz.func16, Tryz.ntmps16
    go_wp2
    go_ret
    exact ⟨⟨x - l.length, rfl, (fun _ => ⟨by omega, by omega⟩)⟩, rfl⟩


/-- A heap whose rows are all its own, apart, and may be written: made since B. -/
structure HN (B : Nat) (w : World) (v : Value) (h : Hp) : Prop where
  ex : ∃ v1 v2 v3, v = .agg #[v1, v2, .int .i64 h.old, .int .i64 h.eden, .int .i64 h.surv, .bool h.flip, .int .i64 h.hash, v3] ∧
    (Disk.OS w 2 1 v1 h.words.length ∧ Disk.OS w 2 1 v2 h.roots.length ∧ Disk.OS w 2 1 v3 h.kept.length) ∧ (IR w v1 h.words ∧ IR w v2 h.roots ∧ IR w v3 h.kept) ∧
    ((∀ b, Disk.rowOf v1 h.words.length = some b → B ≤ b) ∧ (∀ b, Disk.rowOf v2 h.roots.length = some b → B ≤ b) ∧ (∀ b, Disk.rowOf v3 h.kept.length = some b → B ≤ b)) ∧
    (∀ b, Disk.rowOf v1 h.words.length = some b → Disk.rowOf v2 h.roots.length ≠ some b) ∧ (∀ b, Disk.rowOf v1 h.words.length = some b → Disk.rowOf v3 h.kept.length ≠ some b) ∧ (∀ b, Disk.rowOf v2 h.roots.length = some b → Disk.rowOf v3 h.kept.length ≠ some b)
theorem HN.later {B : Nat} {w w' : World} {v : Value} {h : Hp} (k : HN B w v h) (hb : Below w.heap.size w w') : HN B w' v h := by
  obtain ⟨v1, v2, v3, e, ⟨a, b, c⟩, ⟨d, f, g⟩, r⟩ := k.ex
  exact ⟨v1, v2, v3, e, ⟨a.later hb, b.later hb, c.later hb⟩, ⟨d.later hb, f.later hb, g.later hb⟩, r⟩
theorem HN.hr {B : Nat} {w : World} {v : Value} {h : Hp} (k : HN B w v h) : HR w v h := by
  obtain ⟨v1, v2, v3, e, _, ⟨d, f, g⟩, _⟩ := k.ex
  exact ⟨v1, v2, v3, e, d, f, g⟩

set_option maxHeartbeats 400000 in
theorem toInts_any (v : Value) (l : List Int) (w : World) (hv : IR w v l) (h1 : l.length ≤ 10000000000000) :
    Calls Tryz.prog 23 #[v] w fun e w' => (∃ cap, e = .returned (.slice (some ⟨w.heap.size, 0, none⟩) l.length cap) ∧ IR w' (.slice (some ⟨w.heap.size, 0, none⟩) l.length cap) l ∧ Disk.OS w' 2 1 (.slice (some ⟨w.heap.size, 0, none⟩) l.length cap) l.length) ∧ Below w.heap.size w w' ∧ w.heap.size < w'.heap.size := by
  obtain ⟨ao, cap, rfl, _, hv⟩ := hv
  have hmk := make28 l.length h1
  obtain ⟨f, hr0⟩ := made_ints w l.length
  go_enter Tryz.func23, Tryz.ntmps23
  go_wp2
  go_loopw [4] (fun i wr => ∃ (j : Nat), j ≤ l.length ∧ i = .int .i64 j ∧ Below w.heap.size w wr ∧ wr.rowIs w.heap.size 2 l.length (fun i => if i < j then icell l i else f i)) (fun i _ => l.length - (intOf i).toNat)
  case atStart => exact ⟨0, Nat.zero_le _, rfl, bel_one _ _, hr0.congr (fun i _ => by simp)⟩
  case round =>
    obtain ⟨j, hj, rfl, hb, hrow⟩ := hrel
    by_cases hlt : j < l.length
    · obtain ⟨b, o, rfl, hc⟩ := hv j hlt
      have hc1 := cell_later hb hc
      have hc2 := hrow.cell (i := j) hlt
      have hf2 := hrow.frozen j
      have R := row_copy hrow (.int .i64 (l.getD j 0)) rfl
      have G := hb.setCell (p := ⟨w.heap.size, j, none⟩) (Nat.le_refl _) (.int .i64 (l.getD j 0))
      generalize l.getD j 0 = s at *
      clear hv hc hrow hr0 hmk
      go_wp2
      go_roundw
      case rel => exact ⟨j + 1, by omega, by go_num, G, R⟩
      case measure => simp [intOf]; omega
    · obtain rfl : j = l.length := by omega
      go_wp2
      go_ret
      exact ⟨⟨_, rfl, ⟨_, _, rfl, Nat.le_refl _, fun i hi => ⟨_, 0, rfl, by rw [Nat.zero_add, hrow.cell hi, if_pos hi]; rfl⟩⟩, ⟨_, _, rfl, .inr ⟨w.heap.size, l.length, _, rfl, by omega, hrow⟩⟩⟩, hb, hrow.lt⟩

end Go.Proofs.YtnppoeifhmkphaaGreatDoor

/- toHeap and eqHeap of the laws. -/
namespace Go.Proofs.YtnppoeifhmkphaaGreatDoor
open Go.RowKit

theorem Bx.below {w w' : World} {N : Nat} {v1 v2 v3 : Value} {h : Hp} (k : Bx w N v1 v2 v3 h) (hb : Below (N + 1) w w') : Bx w' N v1 v2 v3 h := by
  have e : ∀ o v, w.cell? ⟨N, o, none⟩ = some v → w'.cell? ⟨N, o, none⟩ = some v := fun o v q => (hb.cell (p := ⟨N, o, none⟩) (by show N < N + 1; omega)).trans q
  exact ⟨e _ _ k.c0, e _ _ k.c1, e _ _ k.c2, e _ _ k.c3, e _ _ k.c4, e _ _ k.c5, e _ _ k.c6, e _ _ k.c7⟩
theorem gset (w : World) (b i : Nat) (v : Value) {a : World} (h : a.grownBy w (some b)) : a.grownBy (w.setCell ⟨b, i, none⟩ v) (some b) := Disk.grown_trans h (Disk.grown_set w b i v)
theorem OSg {w w' : World} {g n cap R : Nat} (h : Disk.OS w 2 1 (.slice (some ⟨g, 0, none⟩) n cap) n) (hg : w.grownBy w' (some R)) (hne : g ≠ R) : Disk.OS w' 2 1 (.slice (some ⟨g, 0, none⟩) n cap) n := h.grown hg (.inr (by simp [Value.ownBlock]; exact hne))
theorem IRg {w w' : World} {g n cap R : Nat} {l : List Int} (h : IR w (.slice (some ⟨g, 0, none⟩) n cap) l) (hg : w.grownBy w' (some R)) (hne : g ≠ R) : IR w' (.slice (some ⟨g, 0, none⟩) n cap) l := h.grown hg (.inr (by simp [Value.ownBlock]; exact hne))
theorem rowof {g n cap b : Nat} (h : Disk.rowOf (.slice (some ⟨g, 0, none⟩) n cap) n = some b) : b = g := by
  unfold Disk.rowOf at h
  split at h
  · cases h
  · simp [Value.ownBlock] at h; omega

theorem toInts_g (v : Value) (l : List Int) (w : World) (hv : IR w v l) (h1 : l.length ≤ 10000000000000) :
    Calls Tryz.prog 23 #[v] w fun e w' => (∃ g cap, e = .returned (.slice (some ⟨g, 0, none⟩) l.length cap) ∧ IR w' (.slice (some ⟨g, 0, none⟩) l.length cap) l ∧ Disk.OS w' 2 1 (.slice (some ⟨g, 0, none⟩) l.length cap) l.length ∧ w.heap.size ≤ g ∧ g < w'.heap.size) ∧ Below w.heap.size w w' :=
  (toInts_any v l w hv h1).mono fun _ _ ⟨⟨cap, a, b, c⟩, d, e⟩ => ⟨⟨w.heap.size, cap, a, b, c, Nat.le_refl _, e⟩, d⟩


set_option maxRecDepth 100000 in
set_option maxHeartbeats 1600000 in
theorem eqHeap_any (v u : Value) (h : Hp) (w : World) (hv : HR w v h) (hu : HR w u h) (l1 : h.words.length ≤ 10000000000000) (l2 : h.roots.length ≤ 10000000000000) (l3 : h.kept.length ≤ 10000000000000) :
    Calls Tryz.prog 12 #[v, u] w fun e w' => e = .returned (.bool true) ∧ Below w.heap.size w w' := by
  obtain ⟨v1, v2, v3, rfl, a1, a2, a3⟩ := hv
  obtain ⟨u1, u2, u3, rfl, b1, b2, b3⟩ := hu
  have hb0 : Below w.heap.size w ((w.alloc (.cells #[v1, v2, .int .i64 h.old, .int .i64 h.eden, .int .i64 h.surv, .bool h.flip, .int .i64 h.hash, v3] 35)).alloc (.cells #[u1, u2, .int .i64 h.old, .int .i64 h.eden, .int .i64 h.surv, .bool h.flip, .int .i64 h.hash, u3] 35)) := bel_after (bel_one _ _) (bel_one _ _)
  have X0 := (Bx.new w v1 v2 v3 h 35).later (bel_one _ (.cells #[u1, u2, .int .i64 h.old, .int .i64 h.eden, .int .i64 h.surv, .bool h.flip, .int .i64 h.hash, u3] 35))
  have Y0 : Bx ((w.alloc (.cells #[v1, v2, .int .i64 h.old, .int .i64 h.eden, .int .i64 h.surv, .bool h.flip, .int .i64 h.hash, v3] 35)).alloc (.cells #[u1, u2, .int .i64 h.old, .int .i64 h.eden, .int .i64 h.surv, .bool h.flip, .int .i64 h.hash, u3] 35)) (w.heap.size + 1) u1 u2 u3 h := by
    have q := Bx.new (w.alloc (.cells #[v1, v2, .int .i64 h.old, .int .i64 h.eden, .int .i64 h.surv, .bool h.flip, .int .i64 h.hash, v3] 35)) u1 u2 u3 h 35
    rwa [World.size_alloc] at q
  have E1 := eqInt64S_any v1 u1 h.words h.words _ (a1.later hb0) (b1.later hb0) (by omega) (by omega)
  rw [decide_eq_true rfl] at E1
  go_enter Tryz.func12, Tryz.ntmps12
  go_wp2_with fail
  refine E1.mono ?_
  rintro e w1 ⟨rfl, hb1⟩
  have hbw1 := bel_after hb0 hb1
  have X1 := X0.later hb1
  have Y1 := Y0.later hb1
  obtain ⟨x0, x1, x2, x3, x4, x5, x6, x7⟩ := id X1
  obtain ⟨y0, y1, y2, y3, y4, y5, y6, y7⟩ := id Y1
  have E2 := eqInt64S_any v2 u2 h.roots h.roots _ (a2.later hbw1) (b2.later hbw1) (by omega) (by omega)
  rw [decide_eq_true rfl] at E2
  clear E1 X0 Y0
  go_wp2_with fail
  refine E2.mono ?_
  rintro e w2 ⟨rfl, hb2⟩
  have hbw2 := bel_after hbw1 hb2
  have X2 := X1.later hb2
  have Y2 := Y1.later hb2
  clear x0 x1 x2 x3 x4 x5 x6 x7 y0 y1 y2 y3 y4 y5 y6 y7
  obtain ⟨x0, x1, x2, x3, x4, x5, x6, x7⟩ := id X2
  obtain ⟨y0, y1, y2, y3, y4, y5, y6, y7⟩ := id Y2
  have E3 := eqInt64S_any v3 u3 h.kept h.kept _ (a3.later hbw2) (b3.later hbw2) (by omega) (by omega)
  rw [decide_eq_true rfl] at E3
  clear E2 X1 Y1
  go_wp2_with fail
  refine E3.mono ?_
  rintro e w3 ⟨rfl, hb3⟩
  go_wp2
  go_ret
  exact ⟨rfl, bel_after hbw2 hb3⟩

end Go.Proofs.YtnppoeifhmkphaaGreatDoor
