/- SetRoot of the program. -/
import Derived.Test.YtgacacbncefeaaaGreatZMIAdd
namespace Go.Proofs.YtgacacbncefeaaaGreat
open Go.RowKit

theorem set_no {h : Hp} {i x : Int} (k : setB h i x = false) : setC h i x = zeroH := by unfold setC; rw [k]; rfl
theorem set_yes {h : Hp} {i x : Int} (k : setB h i x = true) : setC h i x = { h with roots := h.roots.set i.toNat x } := by unfold setC; rw [k]; rfl


end Go.Proofs.YtgacacbncefeaaaGreat
