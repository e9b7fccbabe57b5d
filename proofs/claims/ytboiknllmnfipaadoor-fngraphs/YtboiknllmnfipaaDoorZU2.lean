
import Derived.Test.YtboiknllmnfipaaDoorZU1
import Derived.Test.YtboiknllmnfipaaDoorZShelf
import Derived.Lib.OwnBridge
/- isAmong, fitsHeap, allFit and hasYoung of the program. -/
namespace Go.Proofs.YtboiknllmnfipaaDoor
open Go.RowKit




theorem fit_ref {l : List Nat} {x : Int} (h : isK 2 x = true) : fitB l x = (ints l).contains (x / 2) := by
  unfold fitB
  have e : kindW x = 2 := of_decide_eq_true h
  rw [e]
  simp
end Go.Proofs.YtboiknllmnfipaaDoor

/- wordsFit and keptObjects of the program. -/
namespace Go.Proofs.YtboiknllmnfipaaDoor
open Go.RowKit

theorem intsI {w : World} {v : Value} {l : List Nat} (h : IR w v (ints l)) : ∃ ao cap, v = .slice ao l.length cap ∧ ∀ k, k < l.length → ∃ b o, ao = some ⟨b, o, none⟩ ∧ w.cell? ⟨b, o + k, none⟩ = some (.int .i64 ((l.getD k 0 : Nat) : Int)) := by
  obtain ⟨ao, cap, rfl, _, hc⟩ := h
  rw [ints_length] at hc ⊢
  refine ⟨ao, cap, rfl, fun k hk => ?_⟩
  obtain ⟨b, o, e, hcell⟩ := hc k hk
  refine ⟨b, o, e, ?_⟩
  rw [hcell]
  simp [ints, hk]
theorem lget_mem (l : List Nat) (k : Nat) (h : k < l.length) : l.getD k 0 ∈ l := by simp [h]
theorem IR.shape {w : World} {v : Value} {l : List Int} (h : IR w v l) : ∃ ao cap, v = .slice ao l.length cap := by
  obtain ⟨ao, cap, e, _⟩ := h
  exact ⟨ao, cap, e⟩


theorem ltake_snoc (l : List Nat) (k : Nat) (h : k < l.length) : l.take (k + 1) = l.take k ++ [l.getD k 0] := by
  rw [List.take_add_one, List.getElem?_eq_getElem h]
  simp [h]
end Go.Proofs.YtboiknllmnfipaaDoor

/- hashesOk of the program. -/
namespace Go.Proofs.YtboiknllmnfipaaDoor
open Go.RowKit

end Go.Proofs.YtboiknllmnfipaaDoor

/- heapSpaces of the program. -/
namespace Go.Proofs.YtboiknllmnfipaaDoor
open Go.RowKit

end Go.Proofs.YtboiknllmnfipaaDoor
