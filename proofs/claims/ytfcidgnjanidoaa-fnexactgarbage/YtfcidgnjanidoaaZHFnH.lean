/- Header of the model and of the program. -/
import Derived.Test.YtfcidgnjanidoaaZHFns
namespace Go.Proofs.Ytfcidgnjanidoaa
open Go.RowKit

theorem mem_stop {l : List Nat} {k : Nat} {x : Int} (h : k < l.length) (e : ((l.getD k 0 : Nat) : Int) = x) : (ints l).contains x = true := by
  rw [List.contains_iff_mem, ← e]
  exact List.mem_map.2 ⟨_, lget_mem l k h, rfl⟩
theorem mem_done {l : List Nat} {x : Int} (h : ∀ j, j < l.length → ((l.getD j 0 : Nat) : Int) ≠ x) : (ints l).contains x = false := by
  rw [Bool.eq_false_iff]
  intro q
  rw [List.contains_iff_mem] at q
  obtain ⟨a, ha, rfl⟩ := List.mem_map.1 q
  obtain ⟨i, hi, e⟩ := List.getElem_of_mem ha
  exact h i hi (by simp [hi, e])


theorem is_at {h : Hp} {x : Int} (k : isC h x = true) : ∃ a : Nat, x = a ∧ a + 4 ≤ 3200 ∧ h.words.length = 3200 ∧ okC h = true := by
  unfold isC at k
  rw [List.contains_iff_mem] at k
  obtain ⟨a, ha, e⟩ := List.mem_map.1 k
  cases q : okC h
  · rw [c_wrong q] at ha; cases ha
  · have p := (c_right q).1
    exact ⟨a, e.symm, (p.obj ha).1, p.1, rfl⟩
theorem hd_no {h : Hp} {x : Int} (k : isC h x = false) (i : Nat) : hdC h x i = -1 := by unfold hdC; rw [k]; rfl
theorem hd_yes {h : Hp} {a : Nat} (k : isC h (a : Int) = true) (i : Nat) : hdC h (a : Int) i = gw h.words (a + i) := by unfold hdC; rw [if_pos k, Int.toNat_natCast]
theorem is_wrong {h : Hp} {x : Int} (k : okC h = false) : isC h x = false := by unfold isC; rw [c_wrong k]; rfl

def hdV (h0 h1 h2 h3 : Int) : Value := .tuple #[.int .i64 h0, .int .i64 h1, .int .i64 h2, .int .i64 h3]



end Go.Proofs.Ytfcidgnjanidoaa
