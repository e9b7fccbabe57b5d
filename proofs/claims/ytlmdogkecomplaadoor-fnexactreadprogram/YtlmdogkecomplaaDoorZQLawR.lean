/- The walk of the law on ReadCode. -/
import Derived.Test.YtlmdogkecomplaaDoorZQOpen
import Derived.Test.YtlmdogkecomplaaDoorZQRdS
namespace Go.Proofs.YtlmdogkecomplaaDoor
open Go.ChangeShapes Go.WideShapes Go.ChangeAt Go.RowKit Go.Joins

theorem eqCode_any (a b : Int) (w : World) :
    Calls Tryd.prog 11 #[codeV a b, codeV a b] w fun e w' => e = .returned (.bool true) ∧ Below w.heap.size w w' := by
  unfold codeV
  go_enter Tryd.func11, Tryd.ntmps11
  go_wp2
  go_ret
  exact ⟨rfl, bel_afterQ (qbel w _) (qbel _ _)⟩

set_option maxRecDepth 100000 in
set_option maxHeartbeats 1000000 in
theorem lawRead_any (s : ByteArray) (w : World) (hE : Env w) :
    Calls Tryd.prog 4 #[.string s] w fun e w' => e = .returned (.bool true) ∧ Below w.heap.size w w' := by
  have HE : Hid (Env w) := hE
  clear hE
  by_cases hl : s.size ≤ 1048576
  · have hli : ¬ (1048576 : Int) < (s.size : Int) := by omega
    have S := fun w => specRead_any s w (by omega)
    have I := fun w h => implRead_any s w (by omega) h
    have EQ := fun a b w => eqCode_any a b w
    clear hl
    unfold codeV at *
    generalize (rdC s).1 = x1 at *
    generalize (rdC s).2.1 = x2 at *
    generalize (rdC s).2.2 = x3 at *
    go_enter Tryd.func4, Tryd.ntmps4
    go_wp2_with fail
    refine (S _).mono ?_
    rintro e w1 ⟨rfl, hb1⟩
    have k3 := Bk.new w1 #[.int .i64 x1, .int .i64 x2] 25
    have B1 := hb1.alloc hb1.size (.cells #[.int .i64 x1, .int .i64 x2] 25)
    clear hb1 S
    go_wp2_with fail
    refine (I _ (HE.out.later B1)).mono ?_
    rintro e w2 ⟨rfl, hb2⟩
    replace B1 := bel_afterQ B1 hb2
    replace B1 := B1.alloc B1.size (.cells #[.int .i64 x1, .int .i64 x2] 25)
    replace k3 := (k3.later hb2).alloc (.cells #[.int .i64 x1, .int .i64 x2] 25)
    clear hb2 I
    have c0 := k3.cell 0 (.int .i64 x1) rfl
    have c1 := k3.cell 1 (.int .i64 x2) rfl
    go_wp2_with fail
    refine (EQ _ _ _).mono ?_
    rintro e w3 ⟨rfl, hb3⟩
    replace B1 := bel_afterQ B1 hb3
    clear hb3 EQ c0 c1 k3 HE
    go_wp2
    go_ret
    exact ⟨rfl, B1⟩
  · have hli : (1048576 : Int) < (s.size : Int) := by omega
    go_enter Tryd.func4, Tryd.ntmps4
    go_wp2
    go_ret
    exact ⟨rfl, Below.refl _ _⟩

end Go.Proofs.YtlmdogkecomplaaDoor
