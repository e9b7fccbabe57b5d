/- Heaps in the laws: szHeap, toHeap, eqHeap, markHeap, heldHeap. -/
import Derived.Test.YtgacacbncefeaaaGreatZHSpecP
namespace Go.Proofs.YtgacacbncefeaaaGreat
open Go.RowKit

theorem IRs {w : World} {v : Value} {l : List Int} (h : IR w v l) : ∃ ao cap, v = .slice ao l.length cap ∧ l.length ≤ cap := by
  obtain ⟨ao, cap, e, hc, _⟩ := h
  exact ⟨ao, cap, e, hc⟩
theorem szInt64S_any (v : Value) (l : List Int) (x : Int) (w : World) (hv : IR w v l) (h1 : l.length ≤ 1000000000000000) (x0 : 0 ≤ x) (x1 : x ≤ 1048576) :
    Calls Tryz.prog 53 #[v, .int .i64 x] w fun e w' => (∃ y, e = .returned (.int .i64 y) ∧ Hid (0 ≤ y → (l.length : Int) ≤ 1048576 ∧ y ≤ 1048576)) ∧ w' = w := by
  obtain ⟨ao, cap, rfl, _⟩ := IRs hv
  clear hv
  by_cases hx : x - l.length < 0
  · go_enter Tryz.func53, Tryz.ntmps53
    go_wp2
    go_ret
    exact ⟨⟨-1, rfl, (fun h => by omega)⟩, rfl⟩
  · go_enter Tryz.func53, Tryz.ntmps53
    go_wp2
    go_ret
    exact ⟨⟨x - l.length, rfl, (fun _ => ⟨by omega, by omega⟩)⟩, rfl⟩

/-- A heap as a law's argument has it. -/
theorem szHeap_any (v1 v2 v3 : Value) (h : Hp) (w : World) (i1 : IR w v1 h.words) (i2 : IR w v2 h.roots) (i3 : IR w v3 h.kept) (h1 : h.words.length ≤ 1000000000000000) (h2 : h.roots.length ≤ 1000000000000000) (h3 : h.kept.length ≤ 1000000000000000) :
    Calls Tryz.prog 52 #[.agg #[v1, v2, .int .i64 h.old, .int .i64 h.eden, .int .i64 h.surv, .bool h.flip, .int .i64 h.hash, v3], .int .i64 1048576] w fun e w' => (∃ y, e = .returned (.int .i64 y) ∧ Hid (0 ≤ y → h.words.length ≤ 1048576 ∧ h.roots.length ≤ 1048576 ∧ h.kept.length ≤ 1048576)) ∧ Below w.heap.size w w' := by
  have hb0 := bel_one w (.cells #[v1, v2, .int .i64 h.old, .int .i64 h.eden, .int .i64 h.surv, .bool h.flip, .int .i64 h.hash, v3] 43)
  have S1 := fun x => szInt64S_any v1 h.words x _ (i1.later hb0) h1
  have S2 := fun x => szInt64S_any v2 h.roots x _ (i2.later hb0) h2
  have S3 := fun x => szInt64S_any v3 h.kept x _ (i3.later hb0) h3
  clear i1 i2 i3
  go_enter Tryz.func52, Tryz.ntmps52
  go_wp2_with fail
  refine (S1 _ (by omega) (by omega)).mono ?_
  rintro e wq ⟨⟨y, rfl, q1⟩, hq⟩
  obtain rfl := hq.symm
  by_cases hy : y < 0
  · go_wp2
    go_ret
    exact ⟨⟨-1, rfl, (fun h => by omega)⟩, hb0⟩
  obtain ⟨p1, p2⟩ := q1.out (by omega)
  go_wp2_with fail
  refine (S2 _ (by omega) (by omega)).mono ?_
  rintro e wq ⟨⟨y2, rfl, q2⟩, hq⟩
  obtain rfl := hq.symm
  by_cases hy2 : y2 < 0
  · go_wp2
    go_ret
    exact ⟨⟨-1, rfl, (fun h => by omega)⟩, hb0⟩
  obtain ⟨p3, p4⟩ := q2.out (by omega)
  go_wp2_with fail
  refine (S3 _ (by omega) (by omega)).mono ?_
  rintro e wq ⟨⟨y3, rfl, q3⟩, hq⟩
  obtain rfl := hq.symm
  by_cases hy3 : y3 < 0
  · go_wp2
    go_ret
    exact ⟨⟨-1, rfl, (fun h => by omega)⟩, hb0⟩
  obtain ⟨p5, p6⟩ := q3.out (by omega)
  go_wp2
  go_ret
  exact ⟨⟨y3, rfl, (fun _ => ⟨by omega, by omega, by omega⟩)⟩, hb0⟩

/-- A heap whose rows are all its own, apart, and may be written: made since B. -/
structure HN (B : Nat) (w : World) (v : Value) (h : Hp) : Prop where
  ex : ∃ v1 v2 v3, v = .agg #[v1, v2, .int .i64 h.old, .int .i64 h.eden, .int .i64 h.surv, .bool h.flip, .int .i64 h.hash, v3] ∧
    (Disk.OS w 2 1 v1 h.words.length ∧ Disk.OS w 2 1 v2 h.roots.length ∧ Disk.OS w 2 1 v3 h.kept.length) ∧ (IR w v1 h.words ∧ IR w v2 h.roots ∧ IR w v3 h.kept) ∧
    ((∀ b, Disk.rowOf v1 h.words.length = some b → B ≤ b) ∧ (∀ b, Disk.rowOf v2 h.roots.length = some b → B ≤ b) ∧ (∀ b, Disk.rowOf v3 h.kept.length = some b → B ≤ b)) ∧
    (∀ b, Disk.rowOf v1 h.words.length = some b → Disk.rowOf v2 h.roots.length ≠ some b) ∧ (∀ b, Disk.rowOf v1 h.words.length = some b → Disk.rowOf v3 h.kept.length ≠ some b) ∧ (∀ b, Disk.rowOf v2 h.roots.length = some b → Disk.rowOf v3 h.kept.length ≠ some b)
theorem HN.later {B : Nat} {w w' : World} {v : Value} {h : Hp} (k : HN B w v h) (hb : Below w.heap.size w w') : HN B w' v h := by
  obtain ⟨v1, v2, v3, e, ⟨a, b, c⟩, ⟨d, f, g⟩, r⟩ := k.ex
  exact ⟨v1, v2, v3, e, ⟨a.later hb, b.later hb, c.later hb⟩, ⟨d.later hb, f.later hb, g.later hb⟩, r⟩
theorem HN.hr {B : Nat} {w : World} {v : Value} {h : Hp} (k : HN B w v h) : HR w v h := by
  obtain ⟨v1, v2, v3, e, _, ⟨d, f, g⟩, _⟩ := k.ex
  exact ⟨v1, v2, v3, e, d, f, g⟩

set_option maxHeartbeats 400000 in
theorem toInts_any (v : Value) (l : List Int) (w : World) (hv : IR w v l) (h1 : l.length ≤ 10000000000000) :
    Calls Tryz.prog 57 #[v] w fun e w' => (∃ cap, e = .returned (.slice (some ⟨w.heap.size, 0, none⟩) l.length cap) ∧ IR w' (.slice (some ⟨w.heap.size, 0, none⟩) l.length cap) l ∧ Disk.OS w' 2 1 (.slice (some ⟨w.heap.size, 0, none⟩) l.length cap) l.length) ∧ Below w.heap.size w w' ∧ w.heap.size < w'.heap.size := by
  obtain ⟨ao, cap, rfl, _, hv⟩ := hv
  have hmk := make28 l.length h1
  obtain ⟨f, hr0⟩ := made_ints w l.length
  go_enter Tryz.func57, Tryz.ntmps57
  go_wp2
  go_loopw [4] (fun i wr => ∃ (j : Nat), j ≤ l.length ∧ i = .int .i64 j ∧ Below w.heap.size w wr ∧ wr.rowIs w.heap.size 2 l.length (fun i => if i < j then icell l i else f i)) (fun i _ => l.length - (intOf i).toNat)
  case atStart => exact ⟨0, Nat.zero_le _, rfl, bel_one _ _, hr0.congr (fun i _ => by simp)⟩
  case round =>
    obtain ⟨j, hj, rfl, hb, hrow⟩ := hrel
    by_cases hlt : j < l.length
    · obtain ⟨b, o, rfl, hc⟩ := hv j hlt
      have hc1 := cell_later hb hc
      have hc2 := hrow.cell (i := j) hlt
      have hf2 := hrow.frozen j
      have R := row_copy hrow (.int .i64 (l.getD j 0)) rfl
      have G := hb.setCell (p := ⟨w.heap.size, j, none⟩) (Nat.le_refl _) (.int .i64 (l.getD j 0))
      generalize l.getD j 0 = s at *
      clear hv hc hrow hr0 hmk
      go_wp2
      go_roundw
      case rel => exact ⟨j + 1, by omega, by go_num, G, R⟩
      case measure => simp [intOf]; omega
    · obtain rfl : j = l.length := by omega
      go_wp2
      go_ret
      exact ⟨⟨_, rfl, ⟨_, _, rfl, Nat.le_refl _, fun i hi => ⟨_, 0, rfl, by rw [Nat.zero_add, hrow.cell hi, if_pos hi]; rfl⟩⟩, ⟨_, _, rfl, .inr ⟨w.heap.size, l.length, _, rfl, by omega, hrow⟩⟩⟩, hb, hrow.lt⟩

end Go.Proofs.YtgacacbncefeaaaGreat
