/- l3Newest and Newest of the model. -/
import Derived.Test.YtjclpbaiiklhcaaGreatDoorZSuperN
namespace Go.Proofs.YtjclpbaiiklhcaaGreatDoor
open Go.RowKit

theorem newR_yes {ss : List ByteArray} (h : (orNone (superR ss (textAt ss 0))).1 < (orNone (superR ss (textAt ss 1))).1) : newR ss = orNone (superR ss (textAt ss 1)) := by unfold newR; rw [if_pos h]
theorem newR_no {ss : List ByteArray} (h : ¬ (orNone (superR ss (textAt ss 0))).1 < (orNone (superR ss (textAt ss 1))).1) : newR ss = orNone (superR ss (textAt ss 0)) := by unfold newR; rw [if_neg h]

set_option maxRecDepth 100000 in
set_option maxHeartbeats 6400000 in
theorem l3Newest_any (v1 v2 : Value) (ss : List ByteArray) (w : World) (hv : Ss w v1 ss) :
    Calls Tryz.prog 43 #[.agg #[v1, v2]] w fun x w' => (∃ v, x = .returned (.tuple #[.int .i64 (newR ss).1, v]) ∧ IR w' v (newR ss).2) ∧ Below w.heap.size w w' := by
  have hb0 := bel_one w (.cells #[v1, v2] 27)
  have S0 := fun w hw => l3Super_any v1 v2 ss (textAt ss 0) w (by have := hv.fit 0 (by omega); omega) hw
  have S1 := fun w hw => l3Super_any v1 v2 ss (textAt ss 1) w (by have := hv.fit 1 (by omega); omega) hw
  have NY := @newR_yes ss
  have NN := @newR_no ss
  have hv1 := hv.later hb0
  have hv0 := hv1
  obtain ⟨⟨so, scp, hsv, hsr⟩, hlen, _⟩ := hv1
  obtain ⟨b, o, rfl, hc0⟩ := hsr 0 (by omega)
  obtain ⟨b', o', e', hc1⟩ := hsr 1 (by omega)
  cases e'
  rw [hlen] at hsv
  subst hsv
  change World.cell? _ _ = some (Value.string (textAt ss 0)) at hc0
  change World.cell? _ _ = some (Value.string (textAt ss 1)) at hc1
  generalize textAt ss 0 = t0 at *
  generalize textAt ss 1 = t1 at *
  generalize orNone (superR ss t0) = r0 at *
  generalize orNone (superR ss t1) = r1 at *
  obtain ⟨e0, l0⟩ := r0
  obtain ⟨e1, l1⟩ := r1
  simp only at S0 S1 NY NN
  have HY : Hid (e0 < e1 → newR ss = (e1, l1)) := NY
  have HN : Hid (¬ e0 < e1 → newR ss = (e0, l0)) := NN
  clear NY NN hv hsr
  rw [Nat.add_zero] at hc0
  have q0 : (w.alloc (.cells #[.slice (some ⟨b, o, none⟩) 64 scp, v2] 27)).cell? ⟨w.heap.size, 0, none⟩ = some (.slice (some ⟨b, o, none⟩) 64 scp) := by simp
  have q1 : (w.alloc (.cells #[.slice (some ⟨b, o, none⟩) 64 scp, v2] 27)).cell? ⟨w.heap.size, 1, none⟩ = some v2 := by simp
  go_enter Tryz.func43, Tryz.ntmps43
  go_wp2_with fail
  go_region_held3 (fun w' => Below (w.alloc (.cells #[.slice (some ⟨b, o, none⟩) 64 scp, v2] 27)).heap.size (w.alloc (.cells #[.slice (some ⟨b, o, none⟩) 64 scp, v2] 27)) w' ∧ w'.cell? ⟨w.heap.size, 0, none⟩ = some (.slice (some ⟨b, o, none⟩) 64 scp) ∧ w'.cell? ⟨w.heap.size, 1, none⟩ = some v2 ∧ w'.cell? ⟨b, o, none⟩ = some (.string t0))
    (first | assumption | (refine ⟨(Below.refl _ _).drew, ?_, ?_, ?_⟩ <;> (first | exact q0 | exact q1 | exact hc0)) | (exact keep3 (by assumption) (by assumption)))
    (first
      | (go_at_call 67; refine (S0 _ ?_).mono ?_; (focus (exact hv0.later (And.left (by assumption)))); rintro x w3 ⟨⟨va, rfl, hra⟩, hb3⟩))
  all_goals
    rename_i hHeld
    obtain ⟨hbA, d0, d1, _⟩ := hHeld
    have dt : w3.cell? ⟨b, o + 1, none⟩ = some (.string t1) := cell_later hbA hc1
    have hvA := hv0.later hbA
    have hbw := bel_after hb0 hbA
    clear hb3 hbA hc0 hc1 q0 q1 hv0 hb0 S0
    go_wp2_with fail
    go_region_held3 (fun w' => Below w3.heap.size w3 w' ∧ w'.cell? ⟨w.heap.size, 0, none⟩ = some (.slice (some ⟨b, o, none⟩) 64 scp) ∧ w'.cell? ⟨w.heap.size, 1, none⟩ = some v2 ∧ w'.cell? ⟨b, o + 1, none⟩ = some (.string t1))
      (first | assumption | (refine ⟨(Below.refl _ _).drew, ?_, ?_, ?_⟩ <;> (first | exact d0 | exact d1 | exact dt)) | (exact keep3 (by assumption) (by assumption)))
      (first
        | (go_at_call 67; refine (S1 _ ?_).mono ?_; (focus (exact hvA.later (And.left (by assumption)))); rintro x w4 ⟨⟨vb, rfl, hrb⟩, hb4⟩))
    all_goals
      rename_i hHeld
      have hbB := And.left hHeld
      have hra' := hra.later hbB
      have hbk := bel_after hbw hbB
      clear hHeld hb4 d0 d1 dt hvA hra S1
      by_cases hlt : e0 < e1
      · have G : Hid (newR ss = (e1, l1)) := HY.out hlt
        clear HY HN
        go_wp2
        exact bodyPost_ret (v := .tuple #[.int .i64 e1, vb]) (by simp [results, Tryz.results43, go_sem]) rfl ⟨⟨_, by rw [G.out], by rw [G.out]; exact hrb⟩, hbk⟩
      · have G : Hid (newR ss = (e0, l0)) := HN.out (by omega)
        clear HY HN
        go_wp2
        exact bodyPost_ret (v := .tuple #[.int .i64 e0, va]) (by simp [results, Tryz.results43, go_sem]) rfl ⟨⟨_, by rw [G.out], by rw [G.out]; exact hra'⟩, hbk⟩

/-- Epoch and sectors of a disk's newest superblock; none of a disk that is not one. -/
def newestR (ss : List ByteArray) (ws : List Disk.Wr) : Int × List Int := if Disk.okD ss ws = true then newR ss else (0, [])
theorem newestR_yes {ss : List ByteArray} {ws : List Disk.Wr} (h : Disk.okD ss ws = true) : newestR ss ws = newR ss := by unfold newestR; rw [if_pos h]
theorem newestR_no {ss : List ByteArray} {ws : List Disk.Wr} (h : Disk.okD ss ws = false) : newestR ss ws = (0, []) := by unfold newestR; rw [if_neg (by rw [h]; simp)]

set_option maxRecDepth 100000 in
set_option maxHeartbeats 1000000 in
theorem specNewest_any (v1 v2 : Value) (ss : List ByteArray) (ws : List Disk.Wr) (w : World) (hv1 : Disk.SR w v1 ss) (hv2 : Disk.WR w v2 ws) (h1 : ss.length ≤ 10000000000000) (h2 : ws.length ≤ 10000000000000) (hss : Disk.okD ss ws = true → Ss w v1 ss) :
    Calls Tryz.prog 19 #[.agg #[v1, v2]] w fun x w' => (∃ v, x = .returned (.tuple #[.int .i64 (newestR ss ws).1, v]) ∧ IR w' v (newestR ss ws).2) ∧ Below w.heap.size w w' := by
  have hb0 := bel_one w (.cells #[v1, v2] 27)
  have OK := Disk.specDiskOk_any v1 v2 ss ws _ (hv1.later hb0) (hv2.later hb0) h1 h2
  go_enter Tryz.func19, Tryz.ntmps19
  go_wp2_with fail
  refine OK.mono ?_
  rintro x w1 ⟨rfl, hb1⟩
  have hbw := bel_after hb0 hb1
  have d0 : w1.cell? ⟨w.heap.size, 0, none⟩ = some v1 := cell_later hb1 (by simp)
  have d1 : w1.cell? ⟨w.heap.size, 1, none⟩ = some v2 := cell_later hb1 (by simp)
  clear OK
  cases hok : Disk.okD ss ws
  · have G : Hid (newestR ss ws = (0, [])) := newestR_no hok
    clear hok
    go_wp2
    exact bodyPost_ret (v := .tuple #[.int .i64 0, .slice (some ⟨w1.heap.size, 0, none⟩) 0 0]) (by simp [results, Tryz.results19, go_sem]) rfl ⟨⟨_, by rw [G.out], by rw [G.out]; exact ⟨_, _, rfl, Nat.le_refl _, fun i hi => by simp at hi⟩⟩, bel_after hbw (bel_one _ _)⟩
  · have G : Hid (newestR ss ws = newR ss) := newestR_yes hok
    have N := l3Newest_any v1 v2 ss w1 ((hss hok).later hbw)
    clear hok
    go_wp2_with (go_at_call 43; refine N.mono ?_; rintro x w2 ⟨⟨v, rfl, hr⟩, hb2⟩)
    exact bodyPost_ret (v := .tuple #[.int .i64 (newR ss).1, v]) (by simp [results, Tryz.results19, go_sem]) rfl ⟨⟨_, by rw [G.out], by rw [G.out]; exact hr⟩, bel_after hbw hb2⟩

end Go.Proofs.YtjclpbaiiklhcaaGreatDoor
