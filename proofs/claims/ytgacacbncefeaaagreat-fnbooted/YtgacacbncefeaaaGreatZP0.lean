import Derived.Test.YtgacacbncefeaaaGreatZHFns
import Derived.Test.YtgacacbncefeaaaGreatZHLawC
/- Header of the model and of the program. -/
namespace Go.Proofs.YtgacacbncefeaaaGreat
open Go.RowKit

theorem mem_stop {l : List Nat} {k : Nat} {x : Int} (h : k < l.length) (e : ((l.getD k 0 : Nat) : Int) = x) : (ints l).contains x = true := by
  rw [List.contains_iff_mem, ← e]
  exact List.mem_map.2 ⟨_, lget_mem l k h, rfl⟩
theorem mem_done {l : List Nat} {x : Int} (h : ∀ j, j < l.length → ((l.getD j 0 : Nat) : Int) ≠ x) : (ints l).contains x = false := by
  rw [Bool.eq_false_iff]
  intro q
  rw [List.contains_iff_mem] at q
  obtain ⟨a, ha, rfl⟩ := List.mem_map.1 q
  obtain ⟨i, hi, e⟩ := List.getElem_of_mem ha
  exact h i hi (by simp [hi, e])


theorem is_at {h : Hp} {x : Int} (k : isC h x = true) : ∃ a : Nat, x = a ∧ a + 4 ≤ 3200 ∧ h.words.length = 3200 ∧ okC h = true := by
  unfold isC at k
  rw [List.contains_iff_mem] at k
  obtain ⟨a, ha, e⟩ := List.mem_map.1 k
  cases q : okC h
  · rw [c_wrong q] at ha; cases ha
  · have p := (c_right q).1
    exact ⟨a, e.symm, (p.obj ha).1, p.1, rfl⟩
theorem hd_no {h : Hp} {x : Int} (k : isC h x = false) (i : Nat) : hdC h x i = -1 := by unfold hdC; rw [k]; rfl
theorem hd_yes {h : Hp} {a : Nat} (k : isC h (a : Int) = true) (i : Nat) : hdC h (a : Int) i = gw h.words (a + i) := by unfold hdC; rw [if_pos k, Int.toNat_natCast]
theorem is_wrong {h : Hp} {x : Int} (k : okC h = false) : isC h x = false := by unfold isC; rw [c_wrong k]; rfl

def hdV (h0 h1 h2 h3 : Int) : Value := .tuple #[.int .i64 h0, .int .i64 h1, .int .i64 h2, .int .i64 h3]



end Go.Proofs.YtgacacbncefeaaaGreat

/- The walks of the laws on HeapOk, Young and Header. -/
namespace Go.Proofs.YtgacacbncefeaaaGreat
open Go.RowKit

theorem keep16 {W a b : World} {N M : Nat} {u0 u1 u2 u3 u4 u5 u6 u7 x0 x1 x2 x3 x4 x5 x6 x7 : Value} (k : Below a.heap.size a b) (h : Below W.heap.size W a ∧ (a.cell? ⟨N, 0, none⟩ = some u0 ∧ a.cell? ⟨N, 1, none⟩ = some u1 ∧ a.cell? ⟨N, 2, none⟩ = some u2 ∧ a.cell? ⟨N, 3, none⟩ = some u3 ∧ a.cell? ⟨N, 4, none⟩ = some u4 ∧ a.cell? ⟨N, 5, none⟩ = some u5 ∧ a.cell? ⟨N, 6, none⟩ = some u6 ∧ a.cell? ⟨N, 7, none⟩ = some u7) ∧ (a.cell? ⟨M, 0, none⟩ = some x0 ∧ a.cell? ⟨M, 1, none⟩ = some x1 ∧ a.cell? ⟨M, 2, none⟩ = some x2 ∧ a.cell? ⟨M, 3, none⟩ = some x3 ∧ a.cell? ⟨M, 4, none⟩ = some x4 ∧ a.cell? ⟨M, 5, none⟩ = some x5 ∧ a.cell? ⟨M, 6, none⟩ = some x6 ∧ a.cell? ⟨M, 7, none⟩ = some x7)) :
    Below W.heap.size W b ∧ (b.cell? ⟨N, 0, none⟩ = some u0 ∧ b.cell? ⟨N, 1, none⟩ = some u1 ∧ b.cell? ⟨N, 2, none⟩ = some u2 ∧ b.cell? ⟨N, 3, none⟩ = some u3 ∧ b.cell? ⟨N, 4, none⟩ = some u4 ∧ b.cell? ⟨N, 5, none⟩ = some u5 ∧ b.cell? ⟨N, 6, none⟩ = some u6 ∧ b.cell? ⟨N, 7, none⟩ = some u7) ∧ (b.cell? ⟨M, 0, none⟩ = some x0 ∧ b.cell? ⟨M, 1, none⟩ = some x1 ∧ b.cell? ⟨M, 2, none⟩ = some x2 ∧ b.cell? ⟨M, 3, none⟩ = some x3 ∧ b.cell? ⟨M, 4, none⟩ = some x4 ∧ b.cell? ⟨M, 5, none⟩ = some x5 ∧ b.cell? ⟨M, 6, none⟩ = some x6 ∧ b.cell? ⟨M, 7, none⟩ = some x7) :=
  ⟨bel_after h.1 k, (keep8 k ⟨h.1, h.2.1⟩).2, (keep8 k ⟨h.1, h.2.2⟩).2⟩



end Go.Proofs.YtgacacbncefeaaaGreat
