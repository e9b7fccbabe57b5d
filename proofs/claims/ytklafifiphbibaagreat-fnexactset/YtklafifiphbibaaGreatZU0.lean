import Derived.Test.YtklafifiphbibaaGreatZHLawC
import Derived.Test.YtklafifiphbibaaGreatZHFnH
import Derived.Test.YtklafifiphbibaaGreatZHLawM
/- The walks of the laws on HeapOk, Young and Header. -/
namespace Go.Proofs.YtklafifiphbibaaGreat
open Go.RowKit

theorem keep16 {W a b : World} {N M : Nat} {u0 u1 u2 u3 u4 u5 u6 u7 x0 x1 x2 x3 x4 x5 x6 x7 : Value} (k : Below a.heap.size a b) (h : Below W.heap.size W a ∧ (a.cell? ⟨N, 0, none⟩ = some u0 ∧ a.cell? ⟨N, 1, none⟩ = some u1 ∧ a.cell? ⟨N, 2, none⟩ = some u2 ∧ a.cell? ⟨N, 3, none⟩ = some u3 ∧ a.cell? ⟨N, 4, none⟩ = some u4 ∧ a.cell? ⟨N, 5, none⟩ = some u5 ∧ a.cell? ⟨N, 6, none⟩ = some u6 ∧ a.cell? ⟨N, 7, none⟩ = some u7) ∧ (a.cell? ⟨M, 0, none⟩ = some x0 ∧ a.cell? ⟨M, 1, none⟩ = some x1 ∧ a.cell? ⟨M, 2, none⟩ = some x2 ∧ a.cell? ⟨M, 3, none⟩ = some x3 ∧ a.cell? ⟨M, 4, none⟩ = some x4 ∧ a.cell? ⟨M, 5, none⟩ = some x5 ∧ a.cell? ⟨M, 6, none⟩ = some x6 ∧ a.cell? ⟨M, 7, none⟩ = some x7)) :
    Below W.heap.size W b ∧ (b.cell? ⟨N, 0, none⟩ = some u0 ∧ b.cell? ⟨N, 1, none⟩ = some u1 ∧ b.cell? ⟨N, 2, none⟩ = some u2 ∧ b.cell? ⟨N, 3, none⟩ = some u3 ∧ b.cell? ⟨N, 4, none⟩ = some u4 ∧ b.cell? ⟨N, 5, none⟩ = some u5 ∧ b.cell? ⟨N, 6, none⟩ = some u6 ∧ b.cell? ⟨N, 7, none⟩ = some u7) ∧ (b.cell? ⟨M, 0, none⟩ = some x0 ∧ b.cell? ⟨M, 1, none⟩ = some x1 ∧ b.cell? ⟨M, 2, none⟩ = some x2 ∧ b.cell? ⟨M, 3, none⟩ = some x3 ∧ b.cell? ⟨M, 4, none⟩ = some x4 ∧ b.cell? ⟨M, 5, none⟩ = some x5 ∧ b.cell? ⟨M, 6, none⟩ = some x6 ∧ b.cell? ⟨M, 7, none⟩ = some x7) :=
  ⟨bel_after h.1 k, (keep8 k ⟨h.1, h.2.1⟩).2, (keep8 k ⟨h.1, h.2.2⟩).2⟩



end Go.Proofs.YtklafifiphbibaaGreat

/- The walk of the law on NewHeap. -/
namespace Go.Proofs.YtklafifiphbibaaGreat
open Go.RowKit

theorem HN.out {B : Nat} {w : World} {v : Value} {h : Hp} (k : HN B w v h) : ∃ a1 c1 a2 c2 a3 c3, v = .agg #[.slice a1 h.words.length c1, .slice a2 h.roots.length c2, .int .i64 h.old, .int .i64 h.eden, .int .i64 h.surv, .bool h.flip, .int .i64 h.hash, .slice a3 h.kept.length c3] ∧
    (Disk.OS w 2 1 (.slice a1 h.words.length c1) h.words.length ∧ Disk.OS w 2 1 (.slice a2 h.roots.length c2) h.roots.length ∧ Disk.OS w 2 1 (.slice a3 h.kept.length c3) h.kept.length) ∧ (IR w (.slice a1 h.words.length c1) h.words ∧ IR w (.slice a2 h.roots.length c2) h.roots ∧ IR w (.slice a3 h.kept.length c3) h.kept) ∧
    ((∀ b, Disk.rowOf (.slice a1 h.words.length c1) h.words.length = some b → B ≤ b) ∧ (∀ b, Disk.rowOf (.slice a2 h.roots.length c2) h.roots.length = some b → B ≤ b) ∧ (∀ b, Disk.rowOf (.slice a3 h.kept.length c3) h.kept.length = some b → B ≤ b)) ∧
    (∀ b, Disk.rowOf (.slice a1 h.words.length c1) h.words.length = some b → Disk.rowOf (.slice a2 h.roots.length c2) h.roots.length ≠ some b) ∧ (∀ b, Disk.rowOf (.slice a1 h.words.length c1) h.words.length = some b → Disk.rowOf (.slice a3 h.kept.length c3) h.kept.length ≠ some b) ∧ (∀ b, Disk.rowOf (.slice a2 h.roots.length c2) h.roots.length = some b → Disk.rowOf (.slice a3 h.kept.length c3) h.kept.length ≠ some b) := by
  obtain ⟨v1, v2, v3, e, os, ir, rest⟩ := k.ex
  obtain ⟨a1, c1, rfl, _⟩ := IRs ir.1
  obtain ⟨a2, c2, rfl, _⟩ := IRs ir.2.1
  obtain ⟨a3, c3, rfl, _⟩ := IRs ir.2.2
  exact ⟨a1, c1, a2, c2, a3, c3, e, os, ir, rest⟩
theorem IR.keep {w w' : World} {v : Value} {l : List Int} (h : IR w v l) (hk : ∀ a n c, v = .slice (some a) n c → 0 < n → w'.heap[a.block]? = w.heap[a.block]?) : IR w' v l := by
  obtain ⟨ao, cap, rfl, hle, h⟩ := h
  refine ⟨ao, cap, rfl, hle, fun i hi => ?_⟩
  obtain ⟨b, o, rfl, hc⟩ := h i hi
  have q : w'.heap[b]? = w.heap[b]? := hk _ _ _ rfl (by omega)
  exact ⟨b, o, rfl, (World.cell?_of_block (w := w) (a := ⟨b, o + i, none⟩) q).trans hc⟩
theorem Bx.keep {w w' : World} {N : Nat} {v1 v2 v3 : Value} {h : Hp} (k : Bx w N v1 v2 v3 h) (hk : w'.heap[N]? = w.heap[N]?) : Bx w' N v1 v2 v3 h := by
  have e : ∀ o v, w.cell? ⟨N, o, none⟩ = some v → w'.cell? ⟨N, o, none⟩ = some v := fun o v q => (World.cell?_of_block (w := w) hk).trans q
  exact ⟨e _ _ k.c0, e _ _ k.c1, e _ _ k.c2, e _ _ k.c3, e _ _ k.c4, e _ _ k.c5, e _ _ k.c6, e _ _ k.c7⟩


end Go.Proofs.YtklafifiphbibaaGreat
