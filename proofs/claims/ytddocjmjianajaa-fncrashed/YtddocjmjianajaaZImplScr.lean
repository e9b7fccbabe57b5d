/- The writes of a commit, of the program: what gives up, the last epoch, the free sectors. -/
import Derived.Test.YtddocjmjianajaaZScrP
import Derived.Test.YtddocjmjianajaaZDCopyO
import Derived.WalkSmall
namespace Go.Proofs.Ytddocjmjianajaa
open Go.RowKit



def mkE (ss : List ByteArray) : Nat → Int
  | 0 => 0
  | k + 1 => max (mkE ss k) (orNone (supR (textAt ss k))).1
theorem mkE_two (ss : List ByteArray) : mkE ss 2 = lastE ss := by
  have h0 := or_epoch (textAt ss 0)
  show max (max 0 (orNone (supR (textAt ss 0))).1) (orNone (supR (textAt ss 1))).1 = _
  unfold lastE
  omega
theorem mkE_range (ss : List ByteArray) (k : Nat) : 0 ≤ mkE ss k ∧ mkE ss k ≤ 999999999 := by
  induction k with
  | zero => exact ⟨Int.le_refl _, by show (0 : Int) ≤ 999999999; decide⟩
  | succ k ih => have := or_epoch (textAt ss k); show 0 ≤ max _ _ ∧ max _ _ ≤ _; omega
theorem mkE_none {ss : List ByteArray} {k : Nat} (h : supR (textAt ss k) = none) : mkE ss (k + 1) = mkE ss k := by
  have := mkE_range ss k
  show max _ _ = _
  rw [h]
  show max (mkE ss k) 0 = _
  omega
theorem mkE_some {ss : List ByteArray} {k : Nat} {e : Int} {l : List Int} (h : supR (textAt ss k) = some (e, l)) : mkE ss (k + 1) = max (mkE ss k) e := by
  show max _ _ = _
  rw [h]
  rfl



def freeK (l : List Int) (k : Nat) : List Int := ((List.range k).map fun i : Nat => (i : Int) + 2).filter fun x => !l.contains x
theorem freeK_all (l : List Int) : freeK l 62 = freeL l := rfl
theorem freeK_in {l : List Int} {k : Nat} (h : l.contains ((k : Int) + 2) = true) : freeK l (k + 1) = freeK l k := by
  unfold freeK
  rw [List.range_succ, List.map_append, List.filter_append]
  simpa [List.filter_cons] using h
theorem freeK_out {l : List Int} {k : Nat} (h : l.contains ((k : Int) + 2) = false) : freeK l (k + 1) = freeK l k ++ [(k : Int) + 2] := by
  unfold freeK
  rw [List.range_succ, List.map_append, List.filter_append]
  simpa [List.filter_cons] using h
theorem freeK_len (l : List Int) (k : Nat) : (freeK l k).length ≤ k := by
  unfold freeK
  exact Nat.le_trans (List.length_filter_le _ _) (by simp)


end Go.Proofs.Ytddocjmjianajaa
