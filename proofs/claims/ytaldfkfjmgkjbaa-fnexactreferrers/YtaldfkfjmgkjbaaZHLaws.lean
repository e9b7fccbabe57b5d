/- The walks of the laws on HeapOk, Young and Header. -/
import Derived.Test.YtaldfkfjmgkjbaaZHLawC
import Derived.Test.YtaldfkfjmgkjbaaZHFnH
namespace Go.Proofs.Ytaldfkfjmgkjbaa
open Go.RowKit

theorem keep16 {W a b : World} {N M : Nat} {u0 u1 u2 u3 u4 u5 u6 u7 x0 x1 x2 x3 x4 x5 x6 x7 : Value} (k : Below a.heap.size a b) (h : Below W.heap.size W a ∧ (a.cell? ⟨N, 0, none⟩ = some u0 ∧ a.cell? ⟨N, 1, none⟩ = some u1 ∧ a.cell? ⟨N, 2, none⟩ = some u2 ∧ a.cell? ⟨N, 3, none⟩ = some u3 ∧ a.cell? ⟨N, 4, none⟩ = some u4 ∧ a.cell? ⟨N, 5, none⟩ = some u5 ∧ a.cell? ⟨N, 6, none⟩ = some u6 ∧ a.cell? ⟨N, 7, none⟩ = some u7) ∧ (a.cell? ⟨M, 0, none⟩ = some x0 ∧ a.cell? ⟨M, 1, none⟩ = some x1 ∧ a.cell? ⟨M, 2, none⟩ = some x2 ∧ a.cell? ⟨M, 3, none⟩ = some x3 ∧ a.cell? ⟨M, 4, none⟩ = some x4 ∧ a.cell? ⟨M, 5, none⟩ = some x5 ∧ a.cell? ⟨M, 6, none⟩ = some x6 ∧ a.cell? ⟨M, 7, none⟩ = some x7)) :
    Below W.heap.size W b ∧ (b.cell? ⟨N, 0, none⟩ = some u0 ∧ b.cell? ⟨N, 1, none⟩ = some u1 ∧ b.cell? ⟨N, 2, none⟩ = some u2 ∧ b.cell? ⟨N, 3, none⟩ = some u3 ∧ b.cell? ⟨N, 4, none⟩ = some u4 ∧ b.cell? ⟨N, 5, none⟩ = some u5 ∧ b.cell? ⟨N, 6, none⟩ = some u6 ∧ b.cell? ⟨N, 7, none⟩ = some u7) ∧ (b.cell? ⟨M, 0, none⟩ = some x0 ∧ b.cell? ⟨M, 1, none⟩ = some x1 ∧ b.cell? ⟨M, 2, none⟩ = some x2 ∧ b.cell? ⟨M, 3, none⟩ = some x3 ∧ b.cell? ⟨M, 4, none⟩ = some x4 ∧ b.cell? ⟨M, 5, none⟩ = some x5 ∧ b.cell? ⟨M, 6, none⟩ = some x6 ∧ b.cell? ⟨M, 7, none⟩ = some x7) :=
  ⟨bel_after h.1 k, (keep8 k ⟨h.1, h.2.1⟩).2, (keep8 k ⟨h.1, h.2.2⟩).2⟩



end Go.Proofs.Ytaldfkfjmgkjbaa
