/- New, Room, AddRoot and SetRoot in plain words. -/
import Derived.Test.YtgacacbncefeaaaGreatZMBase
import Derived.Test.YtgacacbncefeaaaGreatZP0
namespace Go.Proofs.YtgacacbncefeaaaGreat
open Go.RowKit

noncomputable def roomC (h : Hp) : Int := if okC h = true then 2600 - h.eden else -1
noncomputable def addB (h : Hp) (x : Int) : Bool := okC h && (fitB (obC h) x && !decide (h.roots.length = 20))
noncomputable def addC (h : Hp) (x : Int) : Hp := if addB h x = true then { h with roots := h.roots ++ [x] } else zeroH
noncomputable def setB (h : Hp) (i x : Int) : Bool := okC h && (fitB (obC h) x && decide (0 ≤ i ∧ i < h.roots.length))
noncomputable def setC (h : Hp) (i x : Int) : Hp := if setB h i x = true then { h with roots := h.roots.set i.toNat x } else zeroH
noncomputable def newB (h : Hp) (k n : Int) : Bool := okC h && (decide (0 ≤ k ∧ k ≤ 99) && (decide (0 ≤ n ∧ n ≤ 60) && (!decide (h.hash = 1000000000) && decide (h.eden + 4 + n ≤ 2600))))
def newHp (h : Hp) (k n : Int) : Hp := { h with words := ((h.words.set h.eden.toNat n).set (h.eden.toNat + 1) k).set (h.eden.toNat + 2) h.hash, hash := h.hash + 1, eden := h.eden + 4 + n }
noncomputable def newC (h : Hp) (k n : Int) : Hp := if newB h k n = true then newHp h k n else zeroH
noncomputable def newW' (h : Hp) (k n : Int) : Int := if newB h k n = true then 2 * h.eden + 1 else 0

theorem ok_len {h : Hp} (k : okC h = true) : h.words.length = 3200 ∧ 2000 ≤ h.eden ∧ h.eden ≤ 2600 ∧ 1 ≤ h.hash ∧ h.hash ≤ 1000000000 ∧ h.roots.length ≤ 20 := by
  have q := c_right k
  exact ⟨q.1.1, q.1.2.2.1.1, q.1.2.2.1.2, q.2.2.1.1, q.2.2.1.2, q.2.2.2.2.2.1⟩
theorem ok_sorted {h : Hp} (k : okC h = true) : (obC h).Pairwise (· < ·) := by
  have q := c_right k
  exact ((right_iff (ok_len k).1).1 q).1.sorted
theorem ok_nought {h : Hp} (k : okC h = true) (i : Nat) (h1 : h.eden ≤ i) (h2 : i < 2600) : h.words.getD i 0 = 0 := by
  have q := (c_right k).2.1
  have e := ok_len k
  refine q i (by omega) ?_
  have hs : 2600 ≤ survB h.flip := by unfold survB; split <;> omega
  have ho := (c_right k).1.2.1
  unfold inUse
  omega
theorem list_set_same (W : List Int) (i : Nat) (h : W.getD i 0 = 0) : W.set i 0 = W := by
  refine List.ext_getElem? fun j => ?_
  rw [List.getElem?_set]
  by_cases e : i = j
  · subst e
    by_cases hl : i < W.length
    · rw [if_pos rfl, if_pos hl]
      simp [List.getD_eq_getElem?_getD, hl] at h
      simp [hl, h]
    · rw [if_pos rfl, if_neg hl, List.getElem?_eq_none (by omega)]
  · rw [if_neg e]
theorem splice_four (W : List Int) (i : Nat) (a b c d : Int) (h : i + 4 ≤ W.length) : splice W i [a, b, c, d] = (((W.set i a).set (i + 1) b).set (i + 2) c).set (i + 3) d := by
  refine ilists_eq (by rw [length_splice _ _ _ h]; simp) fun j hj => ?_
  rw [length_splice _ _ _ h] at hj
  rw [splice_get _ _ _ _ h]
  simp only [List.getD_eq_getElem?_getD, List.getElem?_set, List.length_set, List.length_cons, List.length_nil]
  by_cases h0 : j < i
  · simp [h0, show ¬ i + 3 = j from by omega, show ¬ i + 2 = j from by omega, show ¬ i + 1 = j from by omega, show ¬ i = j from by omega]
  by_cases h1 : j = i
  · subst h1
    simp [hj]
  by_cases h2 : j = i + 1
  · subst h2
    simp [hj]
    omega
  by_cases h3 : j = i + 2
  · subst h3
    simp [hj]
    omega
  by_cases h4 : j = i + 3
  · subst h4
    simp [hj]
    omega
  · simp [h0, show ¬ j < i + (0 + 1 + 1 + 1 + 1) from by omega, show ¬ i + 3 = j from by omega, show ¬ i + 2 = j from by omega, show ¬ i + 1 = j from by omega, show ¬ i = j from by omega]
theorem laid_four {h : Hp} (k : okC h = true) (a b c : Int) (hr : h.eden + 4 ≤ 2600) : splice h.words h.eden.toNat [a, b, c, 0] = ((h.words.set h.eden.toNat a).set (h.eden.toNat + 1) b).set (h.eden.toNat + 2) c := by
  have e := ok_len k
  rw [splice_four _ _ _ _ _ _ (by omega)]
  refine list_set_same _ _ ?_
  have q := ok_nought k (h.eden.toNat + 3) (by omega) (by omega)
  simp only [List.getD_eq_getElem?_getD, List.getElem?_set, List.length_set] at q ⊢
  simp
  exact q

end Go.Proofs.YtgacacbncefeaaaGreat
