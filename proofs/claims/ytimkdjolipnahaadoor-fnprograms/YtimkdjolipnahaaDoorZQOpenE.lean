/- What the listed variables give the reading of numbers. -/
import Derived.Test.YtimkdjolipnahaaDoorZQOpen
import Derived.Test.YtimkdjolipnahaaDoorZQNum
namespace Go.Proofs.YtimkdjolipnahaaDoor
open Go.ChangeShapes Go.WideShapes Go.ChangeAt Go.RowKit Go.Joins

theorem Tryd.qcellsE : Tryd.prog.cellsOf 109 = 1 := by kernel_rfl
theorem Tryd.qcellsS : Tryd.prog.cellsOf 9 = 1 := by kernel_rfl
theorem starQ : "*" ++ "errors.errorString" = "*errors.errorString" := by decide
/-- The one type of that name. -/
theorem rowErrQ (u : TypeId) (h : Tryd.prog.typeName? 3 u = some "*errors.errorString") : u = 107 :=
  typeName_ptr_named (nm := "errors.errorString") (by rw [starQ]; kernel_rfl) (by kernel_rfl) (by decide) u (by rw [starQ]; exact h)
def nmQ (i : Nat) : String := (Rows.fnProgramsRow.laid.map (·.1)).getD i ""
theorem gQ3 : Tryd.prog.globalNamed (nmQ 3) = some 2 := by kernel_rfl
theorem gQ4 : Tryd.prog.globalNamed (nmQ 4) = some 1 := by kernel_rfl
theorem tQ3 : (Tryd.prog.globals[2]?).map (·.type) = some 67 := by kernel_rfl
theorem tQ4 : (Tryd.prog.globals[1]?).map (·.type) = some 67 := by kernel_rfl
theorem env_of_met {W : World} {r : List (String × DataW Unit)} (hL : laidMet Tryd.prog ((nmQ 0, Rows.laid_math_bits_deBruijn32tab) :: (nmQ 1, Rows.laid_math_bits_deBruijn64tab) :: (powName, Rows.laid_internal_strconv_uint64pow10) :: (nmQ 3, Rows.laid_strconv_ErrRange) :: (nmQ 4, Rows.laid_strconv_ErrSyntax) :: r) W) : Env W := by
  have hT : Tb W := tb_of_met (laidMet.tail (laidMet.tail hL))
  have L4 := laidMet.tail (laidMet.tail (laidMet.tail hL))
  obtain ⟨b4, _, v4, _⟩ := laid_sentinel (n := nmQ 3) L4 gQ3 tQ3 Tryd.underlying67 rowErrQ Tryd.underlying107 Tryd.underlying109 rfl rfl Tryd.underlying9 Tryd.qcellsE Tryd.qcellsS
  have L5 := laidMet.tail L4
  obtain ⟨b5, _, v5, _⟩ := laid_sentinel (n := nmQ 4) L5 gQ4 tQ4 Tryd.underlying67 rowErrQ Tryd.underlying107 Tryd.underlying109 rfl rfl Tryd.underlying9 Tryd.qcellsE Tryd.qcellsS
  exact ⟨hT, ⟨_, _, by simpa using World.var?_cell gQ4 v5 0⟩, ⟨_, _, by simpa using World.var?_cell gQ3 v4 0⟩⟩

end Go.Proofs.YtimkdjolipnahaaDoor
