/- HeapOk of the model. -/
import Derived.Test.YtnppoeifhmkphaaGreatDoorZMA
namespace Go.Proofs.YtnppoeifhmkphaaGreatDoor
open Go.RowKit

theorem Tryz.infoBo : (Tryz.prog.info? 4).map (fun i => (i.zero, i.size, i.bytes)) = some (some (.bool false), 1, 1) := by kernel_rfl
theorem made_bools (w : World) : (w.alloc (.cells (madeCells #[.bool false] 3200) 4)).rowIs w.heap.size 4 3200 (fun _ => .bool false) := World.rowIs_made w _ 3200 4

def OkOut (h : Hp) (x : Ending) : Prop := ∃ ok : Bool, x = .returned (.bool ok) ∧ (ok = true ↔ ∃ l, RightAt h l)
theorem ok_no {h : Hp} (k : ∀ l, ¬ RightAt h l) : OkOut h (.returned (.bool false)) := ⟨false, rfl, by simp; exact k⟩
theorem ok_yes {h : Hp} {l : List Nat} (k : RightAt h l) : OkOut h (.returned (.bool true)) := ⟨true, rfl, by simp; exact ⟨l, k⟩⟩

theorem IL {w : World} {g n cp k : Nat} {l : List Nat} (h : IR w (.slice (some ⟨g, 0, none⟩) n cp) (ints l)) (hk : k < l.length) : w.cell? ⟨g, k, none⟩ = some (.int .i64 ((l.getD k 0 : Nat) : Int)) := by
  obtain ⟨ao, cap, e, _, hc⟩ := h
  obtain ⟨b, o, e2, hcell⟩ := hc k (by rw [ints_length]; exact hk)
  simp only [Value.slice.injEq] at e
  rw [← e.1] at e2
  simp only [Option.some.injEq, Addr.mk.injEq] at e2
  obtain ⟨rfl, rfl, _⟩ := e2
  rw [ints_get l k hk, Nat.zero_add] at hcell
  exact hcell
theorem row_start {w : World} {S k : Nat} {l : List Nat} (h : w.rowIs S 4 3200 (fun i => .bool (decide (i ∈ l.take k)))) (hk : k < l.length) :
    (w.setCell ⟨S, l.getD k 0, none⟩ (.bool true)).rowIs S 4 3200 (fun i => .bool (decide (i ∈ l.take (k + 1)))) := by
  refine (h.set _ _).congr fun i _ => ?_
  rw [take_snoc' l k 0 hk]
  by_cases e : i = l.getD k 0
  · rw [if_pos e]
    simp [e]
  · rw [if_neg e]
    simp only [List.mem_append, List.mem_singleton, e, or_false]
theorem keep8 {W a b : World} {N : Nat} {u0 u1 u2 u3 u4 u5 u6 u7 : Value} (k : Below a.heap.size a b) (h : Below W.heap.size W a ∧ a.cell? ⟨N, 0, none⟩ = some u0 ∧ a.cell? ⟨N, 1, none⟩ = some u1 ∧ a.cell? ⟨N, 2, none⟩ = some u2 ∧ a.cell? ⟨N, 3, none⟩ = some u3 ∧ a.cell? ⟨N, 4, none⟩ = some u4 ∧ a.cell? ⟨N, 5, none⟩ = some u5 ∧ a.cell? ⟨N, 6, none⟩ = some u6 ∧ a.cell? ⟨N, 7, none⟩ = some u7) :
    Below W.heap.size W b ∧ b.cell? ⟨N, 0, none⟩ = some u0 ∧ b.cell? ⟨N, 1, none⟩ = some u1 ∧ b.cell? ⟨N, 2, none⟩ = some u2 ∧ b.cell? ⟨N, 3, none⟩ = some u3 ∧ b.cell? ⟨N, 4, none⟩ = some u4 ∧ b.cell? ⟨N, 5, none⟩ = some u5 ∧ b.cell? ⟨N, 6, none⟩ = some u6 ∧ b.cell? ⟨N, 7, none⟩ = some u7 :=
  ⟨bel_after h.1 k, cell_later k h.2.1, cell_later k h.2.2.1, cell_later k h.2.2.2.1, cell_later k h.2.2.2.2.1, cell_later k h.2.2.2.2.2.1, cell_later k h.2.2.2.2.2.2.1, cell_later k h.2.2.2.2.2.2.2.1, cell_later k h.2.2.2.2.2.2.2.2⟩
/-- The first k objects are right. -/
def ObjsOk (h : Hp) (l : List Nat) (k : Nat) : Prop := ∀ j, j < k → (1 ≤ gw h.words (l.getD j 0 + 2) ∧ gw h.words (l.getD j 0 + 2) < h.hash) ∧ (∀ i, i < j → gw h.words (l.getD i 0 + 2) ≠ gw h.words (l.getD j 0 + 2)) ∧ fieldsFit h.words l (l.getD j 0)
theorem objs_of {h : Hp} {l m : List Nat} (hp : PartsAt h l) (k : RightAt h m) : ObjsOk h l l.length := by
  obtain rfl := hp.eq k.1
  obtain ⟨_, _, _, h4, ⟨h5, h6⟩, _, _, h7, _⟩ := k
  intro j hj
  have hm := get_mem l j hj
  refine ⟨⟨h4 _ hm, h5 _ hm⟩, fun i hi e => ?_, h7 _ hm⟩
  unfold hashesOf at h6
  rw [List.nodup_iff_pairwise_ne, List.pairwise_map, List.pairwise_iff_getElem] at h6
  exact h6 i j (by omega) hj hi (by simpa [hj, show i < l.length by omega] using e)
theorem right_of {h : Hp} {l : List Nat} (hp : PartsAt h l) (hz : noughts h) (hh : 1 ≤ h.hash ∧ h.hash ≤ 1000000000) (ho : ObjsOk h l l.length) (hr : h.roots.length ≤ 20) (hf : ∀ j, j < h.roots.length → fitB l (h.roots.getD j 0) = true) (hk : keptOf h.words l = h.kept) : RightAt h l := by
  have at_ : ∀ a, a ∈ l → ∃ j, j < l.length ∧ l.getD j 0 = a := fun a ha => by
    obtain ⟨j, hj, e⟩ := List.getElem_of_mem ha
    exact ⟨j, hj, by simp [hj, e]⟩
  refine ⟨hp, hz, hh, fun a ha => ?_, ⟨fun a ha => ?_, ?_⟩, hr, fun x hx => ?_, fun a ha => ?_, hk⟩
  · obtain ⟨j, hj, rfl⟩ := at_ a ha; exact (ho j hj).1.1
  · obtain ⟨j, hj, rfl⟩ := at_ a ha; exact (ho j hj).1.2
  · unfold hashesOf
    rw [List.nodup_iff_pairwise_ne, List.pairwise_map, List.pairwise_iff_getElem]
    intro i j hi hj hij
    have := (ho j hj).2.1 i hij
    simpa [hj, hi] using this
  · obtain ⟨j, hj, e⟩ := List.getElem_of_mem hx
    have := hf j hj
    simpa [hj, e] using this
  · obtain ⟨j, hj, rfl⟩ := at_ a ha; exact (ho j hj).2.2


end Go.Proofs.YtnppoeifhmkphaaGreatDoor
