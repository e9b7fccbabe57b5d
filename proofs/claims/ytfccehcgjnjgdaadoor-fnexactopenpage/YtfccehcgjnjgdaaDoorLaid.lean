/- What the listed variables give a walk. -/
import Derived.Test.YtfccehcgjnjgdaaDoorFmt
import Derived.Lib.LaidTab
import Derived.LaidMore
import Derived.ProofKit
import Derived.OpenShut
import Derived.Stop.Joined
import Derived.Stop.LaidErr
import Derived.RowKitTokens
namespace Go.Proofs.YtfccehcgjnjgdaaDoor
open Go.ChangeShapes Go.WideShapes Go.ChangeAt Go.RowKit

theorem own : ownKnob Tryd.prog.godebug = none := by kernel_rfl
theorem laidOut : laidOutB Tryd.prog = true := by kernel_rfl
theorem gPow : Tryd.prog.globalNamed powName = some 5 := by kernel_rfl
theorem tPow : (Tryd.prog.globals[5]?).map (·.type) = some 93 := by kernel_rfl
theorem Tryd.cells68 : Tryd.prog.cellsOf 68 = 1 := by kernel_rfl
theorem Tryd.cells93 : Tryd.prog.cellsOf 93 = 20 := by kernel_rfl
theorem Tryd.cells140 : Tryd.prog.cellsOf 140 = 1 := by kernel_rfl
theorem Tryd.cells9 : Tryd.prog.cellsOf 9 = 1 := by kernel_rfl
theorem powDatum : Rows.laid_internal_strconv_uint64pow10 (H := Unit) = Lib.tabData .u64 Lib.pow10Tab := by kernel_rfl

theorem tb_of_met {W : World} {r : List (String × DataW Unit)} (h : laidMet Tryd.prog ((powName, Rows.laid_internal_strconv_uint64pow10) :: r) W) : Tb W := by
  rw [powDatum] at h
  exact Lib.tabIs_of_head gPow tPow Tryd.underlying93 Tryd.underlying68 Tryd.cells68 Tryd.cells93 h

theorem star : "*" ++ "errors.errorString" = "*errors.errorString" := by decide
/-- The one type of that name. -/
theorem row138 (u : TypeId) (h : Tryd.prog.typeName? 3 u = some "*errors.errorString") : u = 138 :=
  typeName_ptr_named (nm := "errors.errorString") (by rw [star]; kernel_rfl) (by kernel_rfl) (by decide) u (by rw [star]; exact h)

end Go.Proofs.YtfccehcgjnjgdaaDoor
