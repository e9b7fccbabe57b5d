/- NewDisk of the model and of the program. -/
import Derived.Test.YtddocjmjianajaaZDBase
namespace Go.Proofs.Ytddocjmjianajaa.Disk
open Go.RowKit

set_option maxHeartbeats 400000 in
theorem specNewDisk_any (w : World) : Calls Try.prog 34 #[] w fun e w' => ∃ v1 v2, e = .returned (.agg #[v1, v2]) ∧ ND w.heap.size w' v1 v2 es64 [] ∧ Below w.heap.size w w' := by
  have hmk := make64
  have R := empties_row (w.alloc (.cells #[.slice (some ⟨w.heap.size + 1, 0, none⟩) 64 64, .slice none 0 0] 27))
  rw [World.size_alloc] at R
  go_enter Try.func34, Try.ntmps34
  go_wp2
  exact bodyPost_ret (v := .agg #[.slice (some ⟨w.heap.size + 1, 0, none⟩) 64 64, .slice none 0 0]) (by simp [results, Try.results34, go_sem]) rfl ⟨_, _, rfl, nd_row _ _ _ R (by omega), bel_two _ _ _⟩

set_option maxHeartbeats 400000 in
theorem specNewDisk_nil (w : World) : Calls Try.prog 34 #[] w fun e w' => ∃ v1, e = .returned (.agg #[v1, .slice none 0 0]) ∧ ND w.heap.size w' v1 (.slice none 0 0) es64 [] ∧ Below w.heap.size w w' ∧ (∃ ao n cap, v1 = .slice ao n cap ∧ n ≤ cap) := by
  have hmk := make64
  have R := empties_row (w.alloc (.cells #[.slice (some ⟨w.heap.size + 1, 0, none⟩) 64 64, .slice none 0 0] 27))
  rw [World.size_alloc] at R
  go_enter Try.func34, Try.ntmps34
  go_wp2
  exact bodyPost_ret (v := .agg #[.slice (some ⟨w.heap.size + 1, 0, none⟩) 64 64, .slice none 0 0]) (by simp [results, Try.results34, go_sem]) rfl ⟨_, rfl, nd_row _ _ _ R (by omega), bel_two _ _ _, ⟨_, _, _, rfl, Nat.le_refl _⟩⟩


end Go.Proofs.Ytddocjmjianajaa.Disk
