/- Shape and Reached of the model. -/
import Derived.Test.YtnppoeifhmkphaaGreatDoorZGReach
namespace Go.Proofs.YtnppoeifhmkphaaGreatDoor
open Go.RowKit

theorem shape_c (h : Hp) : shC h = if okC h = true then shP h else gr0 := rfl
theorem gr_zero (w : World) : GR w (.agg #[.slice none 0 0, .slice none 0 0, .int .i64 0]) gr0 :=
  ⟨_, _, rfl, ⟨none, 0, rfl, Nat.le_refl _, fun i hi => absurd hi (Nat.not_lt_zero i)⟩, ⟨none, 0, rfl, Nat.le_refl _, fun i hi => absurd hi (Nat.not_lt_zero i)⟩⟩
/-- A result cell of a graph, two blocks above. -/
theorem gres (w : World) (C : Array Value) (t : TypeId) : ((w.alloc (.cells C t)).alloc (.cells #[.slice none 0 0, .slice none 0 0, .int .i64 0] 30)).rowIs (w.heap.size + 1) 30 3 (grF (.slice none 0 0) (.slice none 0 0) 0) := by
  have q := graphC (w.alloc (.cells C t)) (.slice none 0 0) (.slice none 0 0) 0 30
  rwa [World.size_alloc] at q
theorem node_need {h : Hp} {l : List Nat} (r : RightAt h l) : (shP h).nodes.length = (ordF h.words h.roots).length ∧ ∀ k, k < (shP h).nodes.length → ∃ m : Nat, m ≤ 60 ∧ ((shP h).nodes.getD k nd0).fl.length = m ∧ rsum h.words ((ordF h.words h.roots).take (k + 1)) = rsum h.words ((ordF h.words h.roots).take k) + (4 + m) := by
  have e : (shP h).nodes = (ordF h.words h.roots).map (ndOf h.words (ordF h.words h.roots)) := rfl
  have e1 : (shP h).nodes.length = (ordF h.words h.roots).length := by rw [e, List.length_map]
  refine ⟨e1, fun k hk => ?_⟩
  rw [e1] at hk
  obtain ⟨m, m60, hm, _, _, hs⟩ := reach_need r hk
  refine ⟨m, m60, ?_, hs⟩
  have e2 : (shP h).nodes.getD k nd0 = ndOf h.words (ordF h.words h.roots) ((ordF h.words h.roots).getD k 0) := by rw [e]; simp [hk]
  rw [e2]
  show ((flds h.words ((ordF h.words h.roots).getD k 0)).map (ren (ordF h.words h.roots))).length = m
  rw [List.length_map, flds_length, hm]
  rfl



end Go.Proofs.YtnppoeifhmkphaaGreatDoor
