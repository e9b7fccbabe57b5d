/- What comes in: a Code, the table of the powers of ten. -/
import Derived.Test.YtimkdjolipnahaaDoorZQShow
import Derived.Test.YtimkdjolipnahaaDoorCards
import Derived.Test.YtimkdjolipnahaaDoorTie
import Derived.ProofKit
import Derived.OpenShut
import Derived.Lib.SmallJoins
import Derived.SevenTiedAt
import Derived.Stop.LaidErr
import Derived.Stop.LaidTwo
import Derived.LaidMore
import Derived.HandedShaped
import Derived.Test.YtimkdjolipnahaaDoorZBoth
namespace Go.Proofs.YtimkdjolipnahaaDoor
open Go.ChangeShapes Go.WideShapes Go.ChangeAt Go.RowKit Go.Joins

theorem laidOutQ : laidOutB Tryd.prog = true := by kernel_rfl
theorem ownQ : ownKnob Tryd.prog.godebug = none := by kernel_rfl
theorem gPowQ : Tryd.prog.globalNamed powName = some 0 := by kernel_rfl
theorem tPowQ : (Tryd.prog.globals[0]?).map (·.type) = some 86 := by kernel_rfl
theorem Tryd.qcells64 : Tryd.prog.cellsOf 77 = 1 := by kernel_rfl
theorem Tryd.qcellsT : Tryd.prog.cellsOf 86 = 20 := by kernel_rfl
theorem powDatumQ : Rows.laid_internal_strconv_uint64pow10 (H := Unit) = Lib.tabData .u64 Lib.pow10Tab := by kernel_rfl
theorem tb_of_met {W : World} {r : List (String × DataW Unit)} (h : laidMet Tryd.prog ((powName, Rows.laid_internal_strconv_uint64pow10) :: r) W) : Tb W := by
  rw [powDatumQ] at h
  exact Lib.tabIs_of_head gPowQ tPowQ Tryd.underlying86 Tryd.underlying77 Tryd.qcells64 Tryd.qcellsT h

end Go.Proofs.YtimkdjolipnahaaDoor
