/- The walk of the law on NewDisk. -/
import Derived.Test.YtkiabmgkfneoeafNew
namespace Go.Proofs.Ytkiabmgkfneoeaf
open Go.RowKit

set_option maxHeartbeats 1000000 in
theorem lawNewDisk_any (w : World) : Calls Try.prog 4 #[] w fun e w' => e = .returned (.bool true) ∧ Below w.heap.size w w' := by
  go_enter Try.func4, Try.ntmps4
  go_wp2_with (fail)
  refine (specNewDisk_any _).mono ?_
  rintro e w1 ⟨a1, a2, rfl, hA1, hb1⟩
  obtain ⟨aa, an, ac, rfl⟩ := hA1.s1
  obtain ⟨ba, bn, bc, rfl⟩ := hA1.s2
  go_wp2_with (fail)
  refine (implNewDisk_any _).mono ?_
  rintro e w2 ⟨g1, g2, rfl, hG2, hb2⟩
  obtain ⟨ga, gn, gc, rfl⟩ := hG2.s1
  obtain ⟨ha, hn, hc, rfl⟩ := hG2.s2
  have hA2 := (hA1.later (bel_one _ _)).later hb2
  have c1 : w2.cell? ⟨w1.heap.size, 0, none⟩ = some (.slice aa an ac) := cell_later hb2 (by simp)
  have c2 : w2.cell? ⟨w1.heap.size, 1, none⟩ = some (.slice ba bn bc) := cell_later hb2 (by simp)
  have hz : w1.heap.size < w2.heap.size := by have := hb2.size; simp at this; omega
  have hA3 := hA2.later (bel_one w2 (.cells #[.slice ga gn gc, .slice ha hn hc] 30))
  have hG3 := hG2.later (bel_one w2 (.cells #[.slice ga gn gc, .slice ha hn hc] 30))
  go_wp2_with (fail)
  refine (eqDisk_any _ _ es64 es64 [] [] _ (hG3.dr (by rw [es64_length]; omega) (by simp)) (hA3.dr (by rw [es64_length]; omega) (by simp))).mono ?_
  rintro e w3 ⟨rfl, hb3⟩
  have hA4 := hA3.later hb3
  have hG4 := hG3.later hb3
  have d1 : w3.cell? ⟨w1.heap.size, 0, none⟩ = some (.slice aa an ac) := cell_later hb3 (cell_later (bel_one _ _) c1)
  have d2 : w3.cell? ⟨w1.heap.size, 1, none⟩ = some (.slice ba bn bc) := cell_later hb3 (cell_later (bel_one _ _) c2)
  have d3 : w3.cell? ⟨w2.heap.size, 0, none⟩ = some (.slice ga gn gc) := cell_later hb3 (by simp)
  have d4 : w3.cell? ⟨w2.heap.size, 1, none⟩ = some (.slice ha hn hc) := cell_later hb3 (by simp)
  have hbw3 : Below w.heap.size w w3 := ((((hb1.alloc hb1.size _).trans (hb2.mono (by simp; have := hb1.size; omega))).alloc (by have := hb1.size; omega) _).trans (hb3.mono (by simp; have := hb1.size; omega)))
  have hW3 : Below (w1.heap.size + 1) (w1.alloc (.cells #[.slice aa an ac, .slice ba bn bc] 30)) w3 := by
    have h := (hb2.alloc hb2.size (.cells #[.slice ga gn gc, .slice ha hn hc] 30)).trans (hb3.mono (Nat.le_trans hb2.size (by simp)))
    rwa [World.size_alloc] at h
  have hA' := hA1.later (bel_one w1 (.cells #[.slice aa an ac, .slice ba bn bc] 30))
  obtain ⟨n, hn64, hO1, hr1⟩ : ∃ n, n ≤ 64 ∧ OS w3 9 1 (.slice ga gn gc) n ∧ (∀ b, rowOf (.slice ga gn gc) n = some b → w1.heap.size + 1 ≤ b ∧ b < w2.heap.size) :=
    ⟨es64.length, by rw [es64_length]; omega, hG4.1, fun b e => ⟨by have := hG2.2.2.2.2.1 b e; rw [World.size_alloc] at this; exact this, hG2.1.row b e⟩⟩
  obtain ⟨m, hm0, hO2, hr2⟩ : ∃ m, m ≤ 0 ∧ OS w3 53 2 (.slice ha hn hc) m ∧ (∀ b, rowOf (.slice ha hn hc) m = some b → w1.heap.size + 1 ≤ b ∧ b < w2.heap.size) :=
    ⟨0, by omega, hG4.2.1, fun b e => ⟨by have := hG2.2.2.2.2.2 b e; rw [World.size_alloc] at this; exact this, hG2.2.1.row b e⟩⟩
  clear hA1 hA2 hA3 hG2 hG3 c1 c2 hG4 hA4
  go_wp2_with (fail)
  refine (markDisk_any _ _ n m _ _ hO1 hO2 (by omega) (by omega)).mono ?_
  rintro e w4 ⟨rfl, hT, hS4, hL4⟩
  have e1 := hT.cell d1 (row_ne' (fun b e => (hr1 b e).1) (by omega)) (row_ne' (fun b e => (hr2 b e).1) (by omega))
  have e2 := hT.cell d2 (row_ne' (fun b e => (hr1 b e).1) (by omega)) (row_ne' (fun b e => (hr2 b e).1) (by omega))
  have e3 := hT.cell d3 (row_ne (fun b e => (hr1 b e).2) (by omega)) (row_ne (fun b e => (hr2 b e).2) (by omega))
  have e4 := hT.cell d4 (row_ne (fun b e => (hr1 b e).2) (by omega)) (row_ne (fun b e => (hr2 b e).2) (by omega))
  have hz3 : w2.heap.size < w3.heap.size := by have := hb3.size; simp at this; omega
  have hW4 := hW3.trans (hT.below (B := w1.heap.size + 1) (by omega) (fun b e => (hr1 b e).1) (fun b e => (hr2 b e).1))
  have hA4 := hA'.later (by rw [World.size_alloc]; exact hW4)
  have hz4 := hT.size
  have hbw4 : Below w.heap.size w w4 := hbw3.trans (hT.below (B := w.heap.size) hbw3.size (fun b e => by have := hb1.size; have := (hr1 b e).1; omega) (fun b e => by have := hb1.size; have := (hr2 b e).1; omega))
  clear d1 d2 d3 d4 hW3 hbw3 hT hA' hO1 hO2
  go_wp2_with (fail)
  refine (heldDisk_any _ _ n m _ _ hS4 hL4 (by omega) (by omega)).mono ?_
  rintro e w5 ⟨rfl, hb5⟩
  have hA5 := hA4.later hb5
  have hS5 := hS4.later hb5
  have hL5 := hL4.later hb5
  have f1 := cell_later hb5 e1
  have f2 := cell_later hb5 e2
  have f3 := cell_later hb5 e3
  have f4 := cell_later hb5 e4
  have hbw5 := bel_then hbw4 hbw4.size hb5
  have hz5 := hb5.size
  clear e1 e2 e3 e4 hbw4 hA4 hS4 hL4 hW4
  go_wp2_with (fail)
  refine (implNewDisk_any _).mono ?_
  rintro e w6 ⟨k1, k2, rfl, hK6, hb6⟩
  obtain ⟨ka, kn, kc, rfl⟩ := hK6.s1
  obtain ⟨la, ln, lc, rfl⟩ := hK6.s2
  have hz6 := hb6.size
  have hz16 : w1.heap.size < w6.heap.size := by omega
  have hbw6 := bel_then hbw5 hbw5.size hb6
  have hB6 := bel_one w6 (.cells #[.slice ka kn kc, .slice la ln lc] 30)
  have hA6 := (hA5.later hb6).later hB6
  have hS6 := (hS5.later hb6).later hB6
  have hL6 := (hL5.later hb6).later hB6
  have hK7 := hK6.later hB6
  have g1 := cell_later hb6 f1
  have g2 := cell_later hb6 f2
  have g3 := cell_later hb6 f3
  have g4 := cell_later hb6 f4
  clear f1 f2 f3 f4 hbw5 hA5 hS5 hL5 hK6
  go_wp2_with (fail)
  refine (eqDisk_any _ _ es64 es64 [] [] _ (hK7.dr (by rw [es64_length]; omega) (by simp)) (hA6.dr (by rw [es64_length]; omega) (by simp))).mono ?_
  rintro e w7 ⟨rfl, hb7⟩
  have hS7 := hS6.later hb7
  have hL7 := hL6.later hb7
  have p3 := cell_later hb7 (cell_later hB6 g3)
  have p4 := cell_later hb7 (cell_later hB6 g4)
  have hbw7 := bel_then (bel_then hbw6 hbw6.size hB6) (by simp; have := hbw6.size; omega) hb7
  clear g1 g2 g3 g4 hbw6 hA6 hS6 hL6 hK7 hB6
  go_wp2_with (fail)
  refine (heldDisk_any _ _ n m _ _ hS7 hL7 (by omega) (by omega)).mono ?_
  rintro e w8 ⟨rfl, hb8⟩
  have hbw8 := bel_then hbw7 hbw7.size hb8
  go_wp2
  go_ret
  exact ⟨rfl, hbw8⟩
end Go.Proofs.Ytkiabmgkfneoeaf
