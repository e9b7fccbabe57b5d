/- What the listed variables give OpenPage's walk. -/
import Derived.Test.YtfcenohgfhefiaaGreatDoorZMD
import Derived.Test.YtfcenohgfhefiaaGreatDoorZLaid
import Derived.Test.YtfcenohgfhefiaaGreatDoorZBoth
import Derived.LaidHandle
namespace Go.Proofs.YtfcenohgfhefiaaGreatDoor
open Go.ChangeShapes Go.WideShapes Go.ChangeAt Go.RowKit

def nmO (i : Nat) : String := (Rows.fnSupersRow.laid.map (·.1)).getD i ""
theorem gO3 : Tryz.prog.globalNamed (nmO 3) = some 6 := by kernel_rfl
theorem gO4 : Tryz.prog.globalNamed (nmO 4) = some 11 := by kernel_rfl
theorem gO5 : Tryz.prog.globalNamed (nmO 5) = some 10 := by kernel_rfl
theorem gO6 : Tryz.prog.globalNamed (nmO 6) = some 4 := by kernel_rfl
theorem gO7 : Tryz.prog.globalNamed (nmO 7) = some 5 := by kernel_rfl
theorem gO8 : Tryz.prog.globalNamed (nmO 8) = some 1 := by kernel_rfl
theorem gO9 : Tryz.prog.globalNamed (nmO 9) = some 3 := by kernel_rfl
theorem tG0 : (Tryz.prog.globals[1]?).map (·.type) = some 118 := by kernel_rfl
theorem tG1 : (Tryz.prog.globals[3]?).map (·.type) = some 118 := by kernel_rfl
theorem tG2 : (Tryz.prog.globals[4]?).map (·.type) = some 118 := by kernel_rfl
theorem tG3 : (Tryz.prog.globals[5]?).map (·.type) = some 118 := by kernel_rfl
theorem tG9 : (Tryz.prog.globals[10]?).map (·.type) = some 118 := by kernel_rfl
theorem tG10 : (Tryz.prog.globals[11]?).map (·.type) = some 118 := by kernel_rfl
theorem Tryz.rt : (Tryz.prog.cutTypes.find? (·.1 == "internal/reflectlite.rtype")).map (·.2) = some 200 := by kernel_rfl
theorem Tryz.oneRow : ((List.range 253).filter fun t => Tryz.prog.rowNamed t [101, 114, 114, 111, 114]) = [118] := by kernel_rfl
theorem Tryz.size : Tryz.prog.types.size = 253 := by kernel_rfl

theorem hd_of_laid {W : World} (h : handlesMet Tryz.prog [(nmO 3, Rows.laid_errors_errorType)] W) : Hd W := by
  obtain ⟨name, u, ty, e1, e2, e3, e4, e5⟩ := h _ (List.mem_singleton.2 rfl)
  have en : name = [101, 114, 114, 111, 114] := (Option.some.inj e1).symm
  subst en
  obtain rfl := Option.some.inj (Tryz.rt.symm.trans e2)
  have hm : ty ∈ (List.range 253).filter fun t => Tryz.prog.rowNamed t [101, 114, 114, 111, 114] := List.mem_filter.2 ⟨List.mem_range.2 (by rw [← Tryz.size]; exact e3), e4⟩
  rw [Tryz.oneRow] at hm
  obtain rfl := List.mem_singleton.1 hm
  have hh : typeHandle Tryz.prog 118 = .pointer (some ⟨12, 118, none⟩) := by kernel_rfl
  rw [hh] at e5
  unfold Hd
  simpa using World.var?_cell gO3 e5 0

abbrev L9r (r : List (String × DataW Unit)) : List (String × DataW Unit) := (nmO 0, Rows.laid_math_bits_deBruijn32tab) :: (nmO 1, Rows.laid_math_bits_deBruijn64tab) :: (powName, Rows.laid_internal_strconv_uint64pow10) :: (nmO 4, Rows.laid_strconv_ErrRange) :: (nmO 5, Rows.laid_strconv_ErrSyntax) ::
  (nmO 6, Rows.laid_loop_example_g00140_impl_errEmptyText) :: (nmO 7, Rows.laid_loop_example_g00140_impl_errPageForm) :: (nmO 8, Rows.laid_loop_example_g00140_impl_errPageRange) :: (nmO 9, Rows.laid_loop_example_g00140_impl_errPageSum) :: r
theorem laid_split {W : World} (h : laidMetH Tryz.prog Rows.fnSupersRow.laid W) : laidMet Tryz.prog (L9r []) W ∧ handlesMet Tryz.prog [(nmO 3, Rows.laid_errors_errorType)] W := h

theorem inj_addr {a b : Addr} {x : Option (Array Value)} (h : x = some #[.iface 222 (.pointer (some a))]) (k : x = some #[.iface 222 (.pointer (some b))]) : a = b := by
  have e := h.symm.trans k
  simpa using e

set_option maxRecDepth 100000 in
theorem ctx_of_met {W : World} {r : List (String × DataW Unit)} (hL : laidMet Tryz.prog (L9r r) W) (hH : handlesMet Tryz.prog [(nmO 3, Rows.laid_errors_errorType)] W) (hsh : W.ShapedOpen Tryz.prog) :
    ∃ a0 a1 a2 a3, Ctx a0 a1 a2 a3 W ∧ W.var? Tryz.prog (nmO 8) = some #[.iface 222 (.pointer (some a0))] ∧ W.var? Tryz.prog (nmO 9) = some #[.iface 222 (.pointer (some a1))] ∧
      W.var? Tryz.prog (nmO 6) = some #[.iface 222 (.pointer (some a2))] ∧ W.var? Tryz.prog (nmO 7) = some #[.iface 222 (.pointer (some a3))] := by
  have hT : Tb W := tb_of_met (laidMet.tail (laidMet.tail hL))
  have L4 := laidMet.tail (laidMet.tail (laidMet.tail hL))
  obtain ⟨b4, _, v4, _, _, _⟩ := laid_sentinel (n := nmO 4) L4 gO4 tG10 Tryz.underlying118 row138 Tryz.underlying222 Tryz.underlying224 rfl rfl Tryz.underlying9 Tryz.cells140 Tryz.cells9
  have L5 := laidMet.tail L4
  obtain ⟨b5, _, v5, _, _, _⟩ := laid_sentinel (n := nmO 5) L5 gO5 tG9 Tryz.underlying118 row138 Tryz.underlying222 Tryz.underlying224 rfl rfl Tryz.underlying9 Tryz.cells140 Tryz.cells9
  have L6 := laidMet.tail L5
  obtain ⟨a2, a3, _, _, _, _, _, _, v6, v7, _, _, _, _, _, _, n23, r2, r3⟩ := laid_sentinels2 (n0 := nmO 6) (n1 := nmO 7) L6 gO6 tG2 gO7 tG3 Tryz.underlying118 row138 Tryz.underlying222 Tryz.underlying224 rfl rfl Tryz.underlying9 Tryz.cells140 Tryz.cells9
  obtain ⟨a0, a1, _, _, _, _, _, _, v8, v9, _, _, _, _, _, _, n01, r0, r1⟩ := laid_sentinels2 (n0 := nmO 8) (n1 := nmO 9) (laidMet.tail (laidMet.tail L6)) gO8 tG0 gO9 tG1 Tryz.underlying118 row138 Tryz.underlying222 Tryz.underlying224 rfl rfl Tryz.underlying9 Tryz.cells140 Tryz.cells9
  have n20 : a2 ≠ a0 := by
    obtain ⟨x, y, _, _, _, _, _, _, vx, vy, _, _, _, _, _, _, n, _, _⟩ := laid_sentinels2 (n0 := nmO 6) (n1 := nmO 8) (laid_skip L6) gO6 tG2 gO8 tG0 Tryz.underlying118 row138 Tryz.underlying222 Tryz.underlying224 rfl rfl Tryz.underlying9 Tryz.cells140 Tryz.cells9
    rw [inj_addr v6 vx, inj_addr v8 vy]; exact n
  have n21 : a2 ≠ a1 := by
    obtain ⟨x, y, _, _, _, _, _, _, vx, vy, _, _, _, _, _, _, n, _, _⟩ := laid_sentinels2 (n0 := nmO 6) (n1 := nmO 9) (laid_skip (laid_skip L6)) gO6 tG2 gO9 tG1 Tryz.underlying118 row138 Tryz.underlying222 Tryz.underlying224 rfl rfl Tryz.underlying9 Tryz.cells140 Tryz.cells9
    rw [inj_addr v6 vx, inj_addr v9 vy]; exact n
  have n30 : a3 ≠ a0 := by
    obtain ⟨x, y, _, _, _, _, _, _, vx, vy, _, _, _, _, _, _, n, _, _⟩ := laid_sentinels2 (n0 := nmO 7) (n1 := nmO 8) (laidMet.tail L6) gO7 tG3 gO8 tG0 Tryz.underlying118 row138 Tryz.underlying222 Tryz.underlying224 rfl rfl Tryz.underlying9 Tryz.cells140 Tryz.cells9
    rw [inj_addr v7 vx, inj_addr v8 vy]; exact n
  have n31 : a3 ≠ a1 := by
    obtain ⟨x, y, _, _, _, _, _, _, vx, vy, _, _, _, _, _, _, n, _, _⟩ := laid_sentinels2 (n0 := nmO 7) (n1 := nmO 9) (laid_skip (laidMet.tail L6)) gO7 tG3 gO9 tG1 Tryz.underlying118 row138 Tryz.underlying222 Tryz.underlying224 rfl rfl Tryz.underlying9 Tryz.cells140 Tryz.cells9
    rw [inj_addr v7 vx, inj_addr v9 vy]; exact n
  refine ⟨a0, a1, a2, a3, ⟨⟨hT, ⟨222, .pointer (some b5), by simpa using World.var?_cell gO5 v5 0⟩, ⟨222, .pointer (some b4), by simpa using World.var?_cell gO4 v4 0⟩, Tryz.laysM145.s1_3 W hsh⟩,
    ⟨by simpa using World.var?_cell gO8 v8 0, by simpa using World.var?_cell gO9 v9 0, by simpa using World.var?_cell gO6 v6 0, by simpa using World.var?_cell gO7 v7 0⟩,
    ⟨⟨_, _, r0⟩, ⟨_, _, r1⟩, ⟨_, _, r2⟩, ⟨_, _, r3⟩⟩, hd_of_laid hH, ⟨n01, n20.symm, n30.symm, n21.symm, n31.symm, n23⟩⟩, v8, v9, v6, v7⟩

theorem ctx_of_laid {W : World} (h : laidMetH Tryz.prog Rows.fnSupersRow.laid W) (hsh : W.ShapedOpen Tryz.prog) :
    ∃ a0 a1 a2 a3, Ctx a0 a1 a2 a3 W ∧ W.var? Tryz.prog (nmO 8) = some #[.iface 222 (.pointer (some a0))] ∧ W.var? Tryz.prog (nmO 9) = some #[.iface 222 (.pointer (some a1))] ∧
      W.var? Tryz.prog (nmO 6) = some #[.iface 222 (.pointer (some a2))] ∧ W.var? Tryz.prog (nmO 7) = some #[.iface 222 (.pointer (some a3))] := ctx_of_met (laid_split h).1 (laid_split h).2 hsh

end Go.Proofs.YtfcenohgfhefiaaGreatDoor
