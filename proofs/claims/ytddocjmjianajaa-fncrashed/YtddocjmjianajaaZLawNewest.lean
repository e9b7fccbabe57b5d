/- The law on Newest, walked. -/
import Derived.Test.YtddocjmjianajaaZImplNew
import Derived.Test.YtddocjmjianajaaZIMark
import Derived.Test.YtddocjmjianajaaZDBase
namespace Go.Proofs.Ytddocjmjianajaa
open Go.RowKit

theorem newest_len (ss : List ByteArray) (ws : List Disk.Wr) : (newestR ss ws).2.length ≤ 30 := by
  have key : ∀ t, (orNone (superR ss t)).2.length ≤ 30 := fun t => by
    rw [superR_or]
    split
    · exact or_len t
    · simp
  unfold newestR
  split
  · unfold newR
    split
    · exact key _
    · exact key _
  · simp
theorem grown_bel {B : Nat} {w a b : World} {row : Option Nat} (h : Below B w a) (g : a.grownBy b row) (hB : B ≤ a.heap.size) (hr : ∀ k, row = some k → B ≤ k) : Below B w b :=
  h.trans ⟨g.os, g.tape, g.output, g.size, fun k hk => g.block k (by omega) (fun e => by have := hr k e.symm; omega)⟩
theorem B2_grown {w w' : World} {b : Nat} {u v : Value} {row : Option Nat} (h : Disk.B2 w b u v) (g : w.grownBy w' row) (hr : ∀ k, row = some k → b < k) : Disk.B2 w' b u v :=
  ⟨g.cell h.1 (fun e => by have := hr b e.symm; omega), g.cell h.2 (fun e => by have := hr b e.symm; omega)⟩
theorem own_two {w w' : World} {B e size n lo hi : Nat} {v : Value} {xs : List Value} {r1 r2 : Option Nat} (h : w.ownsRow B e size v n xs) (T : Disk.Two w w' r1 r2) (hr1 : ∀ b, r1 = some b → lo ≤ b ∧ b < hi) (hr2 : ∀ b, r2 = some b → lo ≤ b ∧ b < hi) (hd : hi ≤ B) : w'.ownsRow B e size v n xs := by
  obtain ⟨hl, h⟩ := h
  refine ⟨hl, ?_⟩
  rcases h with h | ⟨g, cap, cur, hv, hB, hh, h1, h2, h3, h4⟩
  · exact .inl h
  · refine .inr ⟨g, cap, cur, hv, hB, ?_, h1, h2, h3, h4⟩
    have hlt : g < w.heap.size := by
      rcases Nat.lt_or_ge g w.heap.size with h' | h'
      · exact h'
      · rw [Array.getElem?_eq_none h'] at hh; cases hh
    rw [T.block g hlt (Disk.in_ne hr1 (by omega)) (Disk.in_ne hr2 (by omega))]
    exact hh
theorem IR.two {w w' : World} {v : Value} {l : List Int} {B lo hi : Nat} {r1 r2 : Option Nat} (h : IR w v l) (T : Disk.Two w w' r1 r2) (hr1 : ∀ b, r1 = some b → lo ≤ b ∧ b < hi) (hr2 : ∀ b, r2 = some b → lo ≤ b ∧ b < hi) (hB : ∀ a n c, v = .slice (some a) n c → 0 < n → a.block < B) (hd : B ≤ lo) : IR w' v l := by
  obtain ⟨ao, cap, rfl, hle, h⟩ := h
  refine ⟨ao, cap, rfl, hle, fun i hi => ?_⟩
  obtain ⟨b, o, rfl, hc⟩ := h i hi
  have := hB _ _ _ rfl (by omega)
  simp at this
  exact ⟨b, o, rfl, T.cell hc (Disk.in_ne hr1 (.inl (by omega))) (Disk.in_ne hr2 (.inl (by omega)))⟩


end Go.Proofs.Ytddocjmjianajaa
