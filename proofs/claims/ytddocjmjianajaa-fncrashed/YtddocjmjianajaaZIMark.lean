/- markInt64S, heldInt64S: marks laid in a row of numbers are held. -/
import Derived.Test.YtddocjmjianajaaZMB
import Derived.Test.YtddocjmjianajaaZDDkB
namespace Go.Proofs.Ytddocjmjianajaa
open Go.RowKit

def imarks (k : Int) (n : Nat) : List Int := (List.range n).map fun i : Nat => k + i
theorem imarks_length (k : Int) (n : Nat) : (imarks k n).length = n := by simp [imarks]
theorem imarks_get (k : Int) (n i : Nat) (h : i < n) : (imarks k n).getD i 0 = k + i := by simp [imarks, h]

theorem OS_of_owns {w : World} {B e n : Nat} {v : Value} {xs : List Value} (h : w.ownsRow B e 1 v n xs) : Disk.OS w e 1 v n := by
  obtain ⟨hl, h⟩ := h
  rcases h with ⟨rfl, rfl⟩ | ⟨g, cap, cur, rfl, hB, hh, h1, h2, h3, h4⟩
  · exact ⟨none, 0, rfl, .inl rfl⟩
  · exact ⟨_, cap, rfl, .inr ⟨g, cur.size, fun i => cur[i]?.getD undef, rfl, by omega, cur, hh, rfl, fun i hi => by simp [hi]⟩⟩
theorem row_of_owns {w : World} {B e n : Nat} {v : Value} {xs : List Value} (h : w.ownsRow B e 1 v n xs) : ∀ b, Disk.rowOf v n = some b → B ≤ b := by
  intro b hb
  obtain ⟨hl, h⟩ := h
  rcases h with ⟨rfl, rfl⟩ | ⟨g, cap, cur, rfl, hB, hh, h1, h2, h3, h4⟩
  · simp [Disk.rowOf] at hb
  · unfold Disk.rowOf at hb
    split at hb
    · cases hb
    · simp [Value.ownBlock] at hb
      omega

theorem IR.grown {w w' : World} {v : Value} {l : List Int} {row : Option Nat} (h : IR w v l) (hg : w.grownBy w' row) (hne : l = [] ∨ v.ownBlock ≠ row) : IR w' v l := by
  obtain ⟨ao, cap, rfl, hle, h⟩ := h
  refine ⟨ao, cap, rfl, hle, fun i hi => ?_⟩
  obtain ⟨b, o, rfl, hc⟩ := h i hi
  rcases hne with rfl | hne
  · simp at hi
  · exact ⟨b, o, rfl, hg.cell hc hne⟩
theorem IR.low {w w' : World} {v : Value} {l : List Int} {row : Option Nat} {B : Nat} (h : IR w v l) (hg : w.grownBy w' row) (hB : ∀ a n c, v = .slice (some a) n c → 0 < n → a.block < B) (hr : ∀ b, row = some b → B ≤ b) : IR w' v l := by
  by_cases hl : l = []
  · exact h.grown hg (.inl hl)
  · obtain ⟨ao, cap, rfl, hle, h'⟩ := id h
    have hp : 0 < l.length := by cases l with | nil => exact absurd rfl hl | cons _ _ => simp
    obtain ⟨b, o, rfl, hc⟩ := h' 0 hp
    refine h.grown hg (.inr fun e => ?_)
    have h1 := hB _ _ _ rfl hp
    have h2 := hr b e.symm
    simp at h1
    omega
theorem IR.lt {w : World} {v : Value} {l : List Int} (h : IR w v l) : ∀ a n c, v = .slice (some a) n c → 0 < n → a.block < w.heap.size := by
  obtain ⟨ao, cap, rfl, hle, h⟩ := h
  intro a n c e hp
  simp only [Value.slice.injEq] at e
  obtain ⟨rfl, rfl, _⟩ := e
  obtain ⟨b, o, e2, hc⟩ := h 0 hp
  simp only [Option.some.injEq] at e2
  subst e2
  exact World.block_lt_of_cell? _ _ hc

theorem irow_mark {w : World} {b N j : Nat} {k : Int} {f : Nat → Value} (h : w.rowIs b 2 N (fun i : Nat => if i < j then .int .i64 (k + i) else f i)) :
    (w.setCell ⟨b, j, none⟩ (.int .i64 (k + j))).rowIs b 2 N (fun i : Nat => if i < j + 1 then .int .i64 (k + i) else f i) := by
  refine (h.set j _).congr fun i _ => ?_
  by_cases e : i = j
  · subst e; simp
  · by_cases e' : i < j
    · rw [if_neg e, if_pos e', if_pos (by omega)]
    · rw [if_neg e, if_neg e', if_neg (by omega)]
theorem irow_marks {w : World} {b N n cap : Nat} {k : Int} {f : Nat → Value} (h : w.rowIs b 2 N (fun i : Nat => if i < n then .int .i64 (k + i) else f i)) (hN : n ≤ N) (hc : n ≤ cap) :
    IR w (.slice (some ⟨b, 0, none⟩) n cap) (imarks k n) := by
  refine ⟨some ⟨b, 0, none⟩, cap, by rw [imarks_length], by rw [imarks_length]; exact hc, fun i hi => ⟨b, 0, rfl, ?_⟩⟩
  rw [imarks_length] at hi
  rw [imarks_get k n i hi, Nat.zero_add, h.cell (by omega), if_pos hi]



end Go.Proofs.Ytddocjmjianajaa
