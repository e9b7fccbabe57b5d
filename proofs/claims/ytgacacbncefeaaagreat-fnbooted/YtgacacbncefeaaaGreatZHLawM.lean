/- markHeap, heldHeap and NewHeap. -/
import Derived.Test.YtgacacbncefeaaaGreatZHLawC
namespace Go.Proofs.YtgacacbncefeaaaGreat
open Go.RowKit

/-- w' is w with new blocks, and with writes to three rows alone. -/
structure Thr (w w' : World) (r1 r2 r3 : Option Nat) : Prop where
  os : w'.os = w.os
  tape : w'.tape = w.tape
  output : w'.output = w.output
  size : w.heap.size ≤ w'.heap.size
  block : ∀ k, k < w.heap.size → some k ≠ r1 → some k ≠ r2 → some k ≠ r3 → w'.heap[k]? = w.heap[k]?
theorem Thr.mk' {w a b c d : World} {r1 r2 r3 : Option Nat} (h0 : Below w.heap.size w a) (h1 : a.grownBy b r1) (h2 : b.grownBy c r2) (h3 : c.grownBy d r3) : Thr w d r1 r2 r3 := by
  have s1 := h0.size
  have s2 := h1.size
  have s3 := h2.size
  exact ⟨h3.os.trans (h2.os.trans (h1.os.trans h0.os)), h3.tape.trans (h2.tape.trans (h1.tape.trans h0.tape)), h3.output.trans (h2.output.trans (h1.output.trans h0.output)), by have := h3.size; omega,
    fun k hk e1 e2 e3 => (h3.block k (by omega) e3).trans ((h2.block k (by omega) e2).trans ((h1.block k (by omega) e1).trans (h0.block k hk)))⟩
theorem Thr.below {w w' : World} {r1 r2 r3 : Option Nat} {B : Nat} (h : Thr w w' r1 r2 r3) (hB : B ≤ w.heap.size) (h1 : ∀ k, r1 = some k → B ≤ k) (h2 : ∀ k, r2 = some k → B ≤ k) (h3 : ∀ k, r3 = some k → B ≤ k) : Below B w w' :=
  ⟨h.os, h.tape, h.output, h.size, fun k hk => h.block k (by omega) (fun e => by have := h1 k e.symm; omega) (fun e => by have := h2 k e.symm; omega) (fun e => by have := h3 k e.symm; omega)⟩
/-- What is at or above a place that all three rows lie below is kept. -/
theorem Thr.high {w w' : World} {r1 r2 r3 : Option Nat} {B : Nat} (h : Thr w w' r1 r2 r3) (h1 : ∀ k, r1 = some k → k < B) (h2 : ∀ k, r2 = some k → k < B) (h3 : ∀ k, r3 = some k → k < B) (b : Nat) (hb : B ≤ b) (hlt : b < w.heap.size) : w'.heap[b]? = w.heap[b]? :=
  h.block b hlt (fun e => by have := h1 b e.symm; omega) (fun e => by have := h2 b e.symm; omega) (fun e => by have := h3 b e.symm; omega)
theorem apart {w : World} {t s n m : Nat} {v u : Value} (d : ∀ b, Disk.rowOf v n = some b → Disk.rowOf u m ≠ some b) (hu : Disk.OS w t s u m) : m = 0 ∨ u.ownBlock ≠ Disk.rowOf v n := by
  by_cases hm : m = 0
  · exact .inl hm
  · refine .inr fun e => ?_
    obtain ⟨ao, cap, rfl, h⟩ := hu
    obtain ⟨b, N, f, rfl, _, _⟩ := h.resolve_left hm
    have e1 : Disk.rowOf v n = some b := by rw [← e]; rfl
    exact d b e1 (by unfold Disk.rowOf; rw [if_neg hm]; rfl)
theorem apart' {w : World} {t s n m : Nat} {v u : Value} (d : ∀ b, Disk.rowOf v n = some b → Disk.rowOf u m ≠ some b) (hv : Disk.OS w t s v n) : n = 0 ∨ v.ownBlock ≠ Disk.rowOf u m := apart (fun b e f => d b f e) hv
theorem marks_nil {k : Int} {n m : Nat} {v u : Value} (h : n = 0 ∨ v.ownBlock ≠ Disk.rowOf u m) : imarks k n = [] ∨ v.ownBlock ≠ Disk.rowOf u m := h.elim (fun e => .inl (by rw [e]; rfl)) .inr

set_option maxRecDepth 100000 in
set_option maxHeartbeats 1600000 in
theorem markHeap_any (v1 v2 v3 : Value) (h : Hp) (k : Int) (w : World) (o1 : Disk.OS w 2 1 v1 h.words.length) (o2 : Disk.OS w 2 1 v2 h.roots.length) (o3 : Disk.OS w 2 1 v3 h.kept.length)
    (i1 : IR w v1 h.words) (i2 : IR w v2 h.roots) (i3 : IR w v3 h.kept)
    (d12 : ∀ b, Disk.rowOf v1 h.words.length = some b → Disk.rowOf v2 h.roots.length ≠ some b) (d13 : ∀ b, Disk.rowOf v1 h.words.length = some b → Disk.rowOf v3 h.kept.length ≠ some b) (d23 : ∀ b, Disk.rowOf v2 h.roots.length = some b → Disk.rowOf v3 h.kept.length ≠ some b)
    (k0 : 0 < k) (k1 : k ≤ 10) (l1 : h.words.length ≤ 10000000000000) (l2 : h.roots.length ≤ 10000000000000) (l3 : h.kept.length ≤ 10000000000000) :
    Calls Tryz.prog 49 #[.agg #[v1, v2, .int .i64 h.old, .int .i64 h.eden, .int .i64 h.surv, .bool h.flip, .int .i64 h.hash, v3], .int .i64 k] w fun e w' => e = .returned (.int .i64 (k + h.words.length + h.roots.length + h.kept.length)) ∧ Thr w w' (Disk.rowOf v1 h.words.length) (Disk.rowOf v2 h.roots.length) (Disk.rowOf v3 h.kept.length) ∧ IR w' v1 (imarks k h.words.length) ∧ IR w' v2 (imarks (k + h.words.length) h.roots.length) ∧ IR w' v3 (imarks (k + h.words.length + h.roots.length) h.kept.length) := by
  have hb0 := bel_one w (.cells #[v1, v2, .int .i64 h.old, .int .i64 h.eden, .int .i64 h.surv, .bool h.flip, .int .i64 h.hash, v3] 28)
  have X0 := Bx.new w v1 v2 v3 h 28
  have q1 := o1.row
  have q2 := o2.row
  have q3 := o3.row
  have ap2 := apart d12 o2
  have ap3 := apart d13 o3
  have ap3' := apart d23 o3
  have am1 := marks_nil (k := k) (apart' d12 o1)
  have am1' := marks_nil (k := k) (apart' d13 o1)
  have am2 := marks_nil (k := k + h.words.length) (apart' d23 o2)
  have M1 := markInt64S_any v1 h.words.length k _ (o1.later hb0) (by obtain ⟨a, c, e, f⟩ := IRs i1; exact ⟨a, c, e, f⟩) k0 (by omega)
  have z2 := IRs i2
  have z3 := IRs i3
  go_enter Tryz.func49, Tryz.ntmps49
  go_wp2_with fail
  refine M1.mono ?_
  rintro e w1 ⟨rfl, g1, m1⟩
  have e1 := g1.cell X0.c1 (fun e => by have := q1 _ e.symm; simp at this)
  have e7 := g1.cell X0.c7 (fun e => by have := q1 _ e.symm; simp at this)
  have p2 := (o2.later hb0).grown g1 ap2
  have p3 := (o3.later hb0).grown g1 ap3
  have M2 := markInt64S_any v2 h.roots.length (k + h.words.length) _ p2 (by obtain ⟨a, c, e, f⟩ := z2; exact ⟨a, c, e, f⟩) (by omega) (by omega)
  go_wp2_with fail
  refine M2.mono ?_
  rintro e w2 ⟨rfl, g2, m2⟩
  have f7 := g2.cell e7 (fun e => by have := q2 _ e.symm; simp at this)
  have r3 := p3.grown g2 ap3'
  have m1' := m1.grown g2 am1
  have M3 := markInt64S_any v3 h.kept.length (k + h.words.length + h.roots.length) _ r3 (by obtain ⟨a, c, e, f⟩ := z3; exact ⟨a, c, e, f⟩) (by omega) (by omega)
  clear M1 M2 X0 e7
  go_wp2_with fail
  refine M3.mono ?_
  rintro e w3 ⟨rfl, g3, m3⟩
  have T := Thr.mk' hb0 g1 g2 g3
  have m1'' := m1'.grown g3 am1'
  have m2' := m2.grown g3 am2
  go_wp2
  go_ret
  exact ⟨rfl, T, m1'', m2', m3⟩

set_option maxHeartbeats 800000 in
theorem heldHeap_any (v1 v2 v3 : Value) (h : Hp) (k : Int) (w : World) (m1 : IR w v1 (imarks k h.words.length)) (m2 : IR w v2 (imarks (k + h.words.length) h.roots.length)) (m3 : IR w v3 (imarks (k + h.words.length + h.roots.length) h.kept.length))
    (k0 : 0 < k) (k1 : k ≤ 10) (l1 : h.words.length ≤ 10000000000000) (l2 : h.roots.length ≤ 10000000000000) (l3 : h.kept.length ≤ 10000000000000) :
    Calls Tryz.prog 50 #[.agg #[v1, v2, .int .i64 h.old, .int .i64 h.eden, .int .i64 h.surv, .bool h.flip, .int .i64 h.hash, v3], .int .i64 k] w fun e w' => e = .returned (.int .i64 (k + h.words.length + h.roots.length + h.kept.length)) ∧ Below w.heap.size w w' := by
  have hb0 := bel_one w (.cells #[v1, v2, .int .i64 h.old, .int .i64 h.eden, .int .i64 h.surv, .bool h.flip, .int .i64 h.hash, v3] 28)
  have X0 := Bx.new w v1 v2 v3 h 28
  have H1 := heldInt64S_any v1 h.words.length k _ (m1.later hb0) k0 (by omega)
  go_enter Tryz.func50, Tryz.ntmps50
  go_wp2_with fail
  refine H1.mono ?_
  rintro e w1 ⟨rfl, hb1⟩
  have hbw1 := bel_after hb0 hb1
  have X1 := X0.later hb1
  obtain ⟨x0, x1, x2, x3, x4, x5, x6, x7⟩ := id X1
  have H2 := heldInt64S_any v2 h.roots.length _ _ (m2.later hbw1) (by omega) (by omega)
  clear H1 X0
  go_wp2_with fail
  refine H2.mono ?_
  rintro e w2 ⟨rfl, hb2⟩
  have hbw2 := bel_after hbw1 hb2
  have X2 := X1.later hb2
  clear x0 x1 x2 x3 x4 x5 x6 x7
  obtain ⟨x0, x1, x2, x3, x4, x5, x6, x7⟩ := id X2
  have H3 := heldInt64S_any v3 h.kept.length _ _ (m3.later hbw2) (by omega) (by omega)
  clear H2 X1
  go_wp2_with fail
  refine H3.mono ?_
  rintro e w3 ⟨rfl, hb3⟩
  go_wp2
  go_ret
  exact ⟨rfl, bel_after hbw2 hb3⟩

def newW : List Int := List.replicate 3200 0
theorem newW_length : newW.length = 3200 := List.length_replicate
theorem newW_get (i : Nat) : newW.getD i 0 = 0 := by
  unfold newW
  rw [List.getD_eq_getElem?_getD, List.getElem?_replicate]
  split <;> rfl
def newH : Hp := ⟨newW, [], 0, 2000, 2600, false, 1, []⟩
theorem none_ne {b : Nat} (k : Disk.rowOf (.slice none 0 0) 0 = some b) : False := by
  unfold Disk.rowOf at k
  rw [if_pos rfl] at k
  cases k
theorem zeros_row (w : World) : (w.alloc (.cells (madeCells #[.int .i64 0] 3200) 2)).rowIs w.heap.size 2 3200 (fun _ => .int .i64 0) := World.rowIs_made w _ 3200 2
theorem makeW (w : World) : (Instr.makeSlice 26 (.int .i64 3200) (.int .i64 3200)).run Tryz.prog w = .ok (.slice (some ⟨w.heap.size, 0, none⟩) 3200 3200) (w.alloc (.cells (madeCells #[.int .i64 0] 3200) 2)) := make28 3200 (by omega) w
theorem new_hn {B g : Nat} {w : World} (hr : w.rowIs g 2 3200 (fun _ => .int .i64 0)) (hB : B ≤ g) :
    HN B w (.agg #[.slice (some ⟨g, 0, none⟩) 3200 3200, .slice none 0 0, .int .i64 0, .int .i64 2000, .int .i64 2600, .bool false, .int .i64 1, .slice none 0 0]) newH := by
  have e : newH.words.length = 3200 := newW_length
  refine ⟨_, _, _, rfl, ⟨?_, ⟨_, _, rfl, .inl rfl⟩, ⟨_, _, rfl, .inl rfl⟩⟩, ⟨?_, ⟨_, _, rfl, Nat.le_refl _, fun i hi => absurd hi (Nat.not_lt_zero i)⟩, ⟨_, _, rfl, Nat.le_refl _, fun i hi => absurd hi (Nat.not_lt_zero i)⟩⟩, ⟨fun b k => ?_, fun b k => (none_ne k).elim, fun b k => (none_ne k).elim⟩, fun b _ k => none_ne k, fun b _ k => none_ne k, fun b _ k => none_ne k⟩
  · rw [e]
    exact ⟨_, _, rfl, .inr ⟨g, 3200, _, rfl, by omega, hr⟩⟩
  · refine ⟨_, 3200, by rw [e], by rw [e]; exact Nat.le_refl _, fun i hi => ⟨g, 0, rfl, ?_⟩⟩
    rw [e] at hi
    rw [Nat.zero_add, hr.cell hi]
    show some (Value.int .i64 0) = some (.int .i64 (newW.getD i 0))
    rw [newW_get]
  · rw [e] at k
    have := rowof k
    omega

set_option maxHeartbeats 800000 in
theorem specNewHeap_any (w : World) : Calls Tryz.prog 41 #[] w fun e w' => (∃ v, e = .returned v ∧ HN w.heap.size w' v newH) ∧ Below w.heap.size w w' := by
  have hmk := makeW
  have hr := zeros_row (w.alloc (.cells #[.slice (some ⟨w.heap.size + 1, 0, none⟩) 3200 3200, .slice none 0 0, .int .i64 0, .int .i64 2000, .int .i64 2600, .bool false, .int .i64 1, .slice none 0 0] 28))
  rw [World.size_alloc] at hr
  have N := new_hn (B := w.heap.size) hr (by omega)
  go_enter Tryz.func41, Tryz.ntmps41
  go_wp2
  exact bodyPost_ret (v := .agg #[.slice (some ⟨w.heap.size + 1, 0, none⟩) 3200 3200, .slice none 0 0, .int .i64 0, .int .i64 2000, .int .i64 2600, .bool false, .int .i64 1, .slice none 0 0]) (by simp [results, Tryz.results41, go_sem]) rfl ⟨⟨_, rfl, N⟩, bel_after (bel_one _ _) (bel_one _ _)⟩
set_option maxHeartbeats 800000 in
theorem implNewHeap_any (w : World) : Calls Tryz.prog 36 #[] w fun e w' => (∃ v, e = .returned v ∧ HN w.heap.size w' v newH) ∧ Below w.heap.size w w' := by
  have hmk := makeW
  have hr := zeros_row (w.alloc (.cells #[.slice (some ⟨w.heap.size + 1, 0, none⟩) 3200 3200, .slice none 0 0, .int .i64 0, .int .i64 2000, .int .i64 2600, .bool false, .int .i64 1, .slice none 0 0] 28))
  rw [World.size_alloc] at hr
  have N := new_hn (B := w.heap.size) hr (by omega)
  go_enter Tryz.func36, Tryz.ntmps36
  go_wp2
  exact bodyPost_ret (v := .agg #[.slice (some ⟨w.heap.size + 1, 0, none⟩) 3200 3200, .slice none 0 0, .int .i64 0, .int .i64 2000, .int .i64 2600, .bool false, .int .i64 1, .slice none 0 0]) (by simp [results, Tryz.results36, go_sem]) rfl ⟨⟨_, rfl, N⟩, bel_after (bel_one _ _) (bel_one _ _)⟩

end Go.Proofs.YtgacacbncefeaaaGreat
