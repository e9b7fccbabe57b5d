/- What the listed variables give a walk. -/
import Derived.Test.YtjclpbaiiklhcaaGreatDoorZV1
import Derived.Lib.LaidTab
import Derived.LaidMore
import Derived.ProofKit
import Derived.OpenShut
import Derived.Stop.Joined
import Derived.Stop.LaidErr
import Derived.RowKitTokens
namespace Go.Proofs.YtjclpbaiiklhcaaGreatDoor
open Go.ChangeShapes Go.WideShapes Go.ChangeAt Go.RowKit

theorem own : ownKnob Tryz.prog.godebug = none := by kernel_rfl
theorem laidOut : laidOutB Tryz.prog = true := by kernel_rfl
theorem gPow : Tryz.prog.globalNamed powName = some 5 := by kernel_rfl
theorem tPow : (Tryz.prog.globals[5]?).map (·.type) = some 146 := by kernel_rfl
theorem Tryz.cells68 : Tryz.prog.cellsOf 133 = 1 := by kernel_rfl
theorem Tryz.cells93 : Tryz.prog.cellsOf 146 = 20 := by kernel_rfl
theorem Tryz.cells140 : Tryz.prog.cellsOf 202 = 1 := by kernel_rfl
theorem Tryz.cells9 : Tryz.prog.cellsOf 9 = 1 := by kernel_rfl
theorem powDatum : Rows.laid_internal_strconv_uint64pow10 (H := Unit) = Lib.tabData .u64 Lib.pow10Tab := by kernel_rfl

theorem tb_of_met {W : World} {r : List (String × DataW Unit)} (h : laidMet Tryz.prog ((powName, Rows.laid_internal_strconv_uint64pow10) :: r) W) : Tb W := by
  rw [powDatum] at h
  exact Lib.tabIs_of_head gPow tPow Tryz.underlying146 Tryz.underlying133 Tryz.cells68 Tryz.cells93 h

theorem star : "*" ++ "errors.errorString" = "*errors.errorString" := by decide
/-- The one type of that name. -/
theorem row138 (u : TypeId) (h : Tryz.prog.typeName? 3 u = some "*errors.errorString") : u = 200 :=
  typeName_ptr_named (nm := "errors.errorString") (by rw [star]; kernel_rfl) (by kernel_rfl) (by decide) u (by rw [star]; exact h)

end Go.Proofs.YtjclpbaiiklhcaaGreatDoor
