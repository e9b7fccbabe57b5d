/- What a word means in a heap, in plain words. -/
import Derived.Test.YtfbnjdlnmnhjoaaGreatZFElem
namespace Go.Proofs.YtfbnjdlnmnhjoaaGreat
open Go.RowKit

/-- What elementIn answers. -/
noncomputable def elW (h : Hp) (u : Value) (x : Int) : Value := if okC h = true then elV (obC h) u x else .iface 66 (.agg #[])

/-- A word in a right heap: which of the four it is. -/
theorem el_cases (h : Hp) (u : Value) (x : Int) :
    (elW h u x = .iface 66 (.agg #[]) ∧ (refB h x && okC h) = false ∧ (okC h = true → ¬ kindW x = 1)) ∨
    (okC h = true ∧ elW h u x = .iface 67 (.agg #[]) ∧ refB h x = false ∧ kindW x = 1) ∨
    (okC h = true ∧ refB h x = true ∧ ∃ a : Nat, a ∈ obC h ∧ x / 2 = a ∧ kindW x = 2 ∧ (elW h u x = .iface 69 (.agg #[u, .int .i64 a]) ∨ elW h u x = .iface 71 (.agg #[u, .int .i64 a]))) := by
  unfold elW
  cases hk : okC h
  · exact .inl ⟨rfl, by simp, fun q => by cases q⟩
  rw [if_pos rfl]
  unfold elV
  cases hf : fitB (obC h) x
  · refine .inl ⟨rfl, ?_, fun _ k => ?_⟩
    · cases hr : refB h x
      · rfl
      · obtain ⟨k, a, ha, e⟩ := ref_mem hr
        rw [fit_ref (decide_eq_true k), e, show (ints (obC h)).contains (a : Int) = true from List.contains_iff_mem.2 (List.mem_map.2 ⟨a, ha, rfl⟩)] at hf
        cases hf
    · unfold fitB at hf
      rw [k] at hf
      simp at hf
  rw [if_pos rfl]
  by_cases k : kindW x = 2
  · rw [if_pos k]
    rw [fit_ref (decide_eq_true k), List.contains_iff_mem] at hf
    obtain ⟨a, ha, e⟩ := List.mem_map.1 hf
    refine .inr (.inr ⟨rfl, ref_of k ha e.symm, a, ha, e.symm, k, ?_⟩)
    rw [← e]
    split
    · exact .inr rfl
    · exact .inl rfl
  · rw [if_neg k]
    have k1 : kindW x = 1 := by
      unfold fitB at hf
      rw [decide_eq_false k] at hf
      simpa using hf
    refine .inr (.inl ⟨rfl, rfl, ?_, k1⟩)
    unfold refB
    rw [decide_eq_false k]
    rfl

end Go.Proofs.YtfbnjdlnmnhjoaaGreat
