/- The walk of the law on NewHeap. -/
import Derived.Test.YtgacacbncefeaaaGreatZHLawM
import Derived.Test.YtgacacbncefeaaaGreatZP0
namespace Go.Proofs.YtgacacbncefeaaaGreat
open Go.RowKit

theorem HN.out {B : Nat} {w : World} {v : Value} {h : Hp} (k : HN B w v h) : ∃ a1 c1 a2 c2 a3 c3, v = .agg #[.slice a1 h.words.length c1, .slice a2 h.roots.length c2, .int .i64 h.old, .int .i64 h.eden, .int .i64 h.surv, .bool h.flip, .int .i64 h.hash, .slice a3 h.kept.length c3] ∧
    (Disk.OS w 2 1 (.slice a1 h.words.length c1) h.words.length ∧ Disk.OS w 2 1 (.slice a2 h.roots.length c2) h.roots.length ∧ Disk.OS w 2 1 (.slice a3 h.kept.length c3) h.kept.length) ∧ (IR w (.slice a1 h.words.length c1) h.words ∧ IR w (.slice a2 h.roots.length c2) h.roots ∧ IR w (.slice a3 h.kept.length c3) h.kept) ∧
    ((∀ b, Disk.rowOf (.slice a1 h.words.length c1) h.words.length = some b → B ≤ b) ∧ (∀ b, Disk.rowOf (.slice a2 h.roots.length c2) h.roots.length = some b → B ≤ b) ∧ (∀ b, Disk.rowOf (.slice a3 h.kept.length c3) h.kept.length = some b → B ≤ b)) ∧
    (∀ b, Disk.rowOf (.slice a1 h.words.length c1) h.words.length = some b → Disk.rowOf (.slice a2 h.roots.length c2) h.roots.length ≠ some b) ∧ (∀ b, Disk.rowOf (.slice a1 h.words.length c1) h.words.length = some b → Disk.rowOf (.slice a3 h.kept.length c3) h.kept.length ≠ some b) ∧ (∀ b, Disk.rowOf (.slice a2 h.roots.length c2) h.roots.length = some b → Disk.rowOf (.slice a3 h.kept.length c3) h.kept.length ≠ some b) := by
  obtain ⟨v1, v2, v3, e, os, ir, rest⟩ := k.ex
  obtain ⟨a1, c1, rfl, _⟩ := IRs ir.1
  obtain ⟨a2, c2, rfl, _⟩ := IRs ir.2.1
  obtain ⟨a3, c3, rfl, _⟩ := IRs ir.2.2
  exact ⟨a1, c1, a2, c2, a3, c3, e, os, ir, rest⟩
theorem IR.keep {w w' : World} {v : Value} {l : List Int} (h : IR w v l) (hk : ∀ a n c, v = .slice (some a) n c → 0 < n → w'.heap[a.block]? = w.heap[a.block]?) : IR w' v l := by
  obtain ⟨ao, cap, rfl, hle, h⟩ := h
  refine ⟨ao, cap, rfl, hle, fun i hi => ?_⟩
  obtain ⟨b, o, rfl, hc⟩ := h i hi
  have q : w'.heap[b]? = w.heap[b]? := hk _ _ _ rfl (by omega)
  exact ⟨b, o, rfl, (World.cell?_of_block (w := w) (a := ⟨b, o + i, none⟩) q).trans hc⟩
theorem Bx.keep {w w' : World} {N : Nat} {v1 v2 v3 : Value} {h : Hp} (k : Bx w N v1 v2 v3 h) (hk : w'.heap[N]? = w.heap[N]?) : Bx w' N v1 v2 v3 h := by
  have e : ∀ o v, w.cell? ⟨N, o, none⟩ = some v → w'.cell? ⟨N, o, none⟩ = some v := fun o v q => (World.cell?_of_block (w := w) hk).trans q
  exact ⟨e _ _ k.c0, e _ _ k.c1, e _ _ k.c2, e _ _ k.c3, e _ _ k.c4, e _ _ k.c5, e _ _ k.c6, e _ _ k.c7⟩


end Go.Proofs.YtgacacbncefeaaaGreat
