/- Programs held against each other, marked and held: eqCodeS, markCodeS, heldCodeS. -/
import Derived.Test.YtimkdjolipnahaaDoorZQPgS
import Derived.Test.YtimkdjolipnahaaDoorZQLawR
namespace Go.Proofs.YtimkdjolipnahaaDoor
open Go.RowKit

theorem cc_get : ∀ (l : List (Int × Int)) (i : Nat), i < l.length → (ccells l)[i * 2]? = some (.int .i64 (l.getD i (0, 0)).1) ∧ (ccells l)[i * 2 + 1]? = some (.int .i64 (l.getD i (0, 0)).2)
  | [], i, h => absurd h (Nat.not_lt_zero _)
  | p :: l, 0, _ => by simp [ccells]
  | p :: l, i + 1, h => by
    have ih := cc_get l i (by simpa using h)
    have e : ccells (p :: l) = .int .i64 p.1 :: .int .i64 p.2 :: ccells l := by simp [ccells]
    rw [e, show (i + 1) * 2 = i * 2 + 1 + 1 from by omega]
    simpa using ih

/-- Every cell holds its mark. -/
def Mk (ys : List Value) (m : Nat) : Prop := ∀ j, j < m → ys[j]? = some (.int .i64 (1 + (j : Int)))
theorem Mk.put {ys : List Value} {m : Nat} (h : Mk ys m) (hm : m < ys.length) : Mk (ys.set m (.int .i64 (1 + (m : Int)))) (m + 1) := by
  intro j hj
  by_cases e : j = m
  · subst e
    simp [hm]
  · rw [List.getElem?_set_ne (by omega)]
    exact h j (by omega)
/-- What markCodeS leaves. -/
def MkOut (B : Nat) (v : Value) (n : Nat) (w w' : World) : Prop := ∃ ys, w'.ownsRow B 25 2 v n ys ∧ Mk ys (n * 2) ∧ w.grownBy w' v.ownBlock


end Go.Proofs.YtimkdjolipnahaaDoor
