/- What comes in: a Code, the table of the powers of ten. -/
import Derived.Test.YtlmdogkecomplaaDoorZQShow
import Derived.Test.YtlmdogkecomplaaDoorCards
import Derived.Test.YtlmdogkecomplaaDoorTie
import Derived.ProofKit
import Derived.OpenShut
import Derived.Lib.SmallJoins
import Derived.SevenTiedAt
import Derived.Stop.LaidErr
import Derived.Stop.LaidTwo
import Derived.LaidMore
import Derived.HandedShaped
import Derived.Test.YtlmdogkecomplaaDoorZBoth
namespace Go.Proofs.YtlmdogkecomplaaDoor
open Go.ChangeShapes Go.WideShapes Go.ChangeAt Go.RowKit Go.Joins

theorem laidOutQ : laidOutB Tryd.prog = true := by kernel_rfl
theorem ownQ : ownKnob Tryd.prog.godebug = none := by kernel_rfl
/-- A Code that came in. -/
theorem open_code {H : Type} {enc : TypeId × Value → H} {W : World} {base b0 : Nat} {sp : Nat → Bool} {held : Bool} {r : Reach} {v : Value} {d : DataW H} {p : List MemPlace} (hv : Value.okWide Tryd.prog W r b0 23 v) (h : DataW.Trod enc Tryd.prog W base sp held 23 v d p) :
    ∃ op n, v = codeV op n ∧ p = [] ∧ (Lit.int .i64 op).wf = true ∧ (Lit.int .i64 n).wf = true := by
  obtain ⟨c0, c1, y0, y1, m, rfl, rfl, rfl, h0, h1⟩ := open_agg2 Tryd.underlying23 (by kernel_rfl) (by kernel_rfl) hv h
  obtain ⟨a, e0, x0, q0⟩ := DataW.trod_int Tryd.underlying2 h0
  obtain ⟨b, e1, x1, q1⟩ := DataW.trod_int Tryd.underlying2 h1
  cases e0
  cases e1
  exact ⟨a, b, rfl, by rw [x0, x1]; rfl, q0, q1⟩

theorem gPowQ : Tryd.prog.globalNamed powName = some 0 := by kernel_rfl
theorem tPowQ : (Tryd.prog.globals[0]?).map (·.type) = some 77 := by kernel_rfl
theorem Tryd.qcells64 : Tryd.prog.cellsOf 69 = 1 := by kernel_rfl
theorem Tryd.qcellsT : Tryd.prog.cellsOf 77 = 20 := by kernel_rfl
theorem powDatumQ : Rows.laid_internal_strconv_uint64pow10 (H := Unit) = Lib.tabData .u64 Lib.pow10Tab := by kernel_rfl
theorem tb_of_met {W : World} {r : List (String × DataW Unit)} (h : laidMet Tryd.prog ((powName, Rows.laid_internal_strconv_uint64pow10) :: r) W) : Tb W := by
  rw [powDatumQ] at h
  exact Lib.tabIs_of_head gPowQ tPowQ Tryd.underlying77 Tryd.underlying69 Tryd.qcells64 Tryd.qcellsT h

end Go.Proofs.YtlmdogkecomplaaDoor
