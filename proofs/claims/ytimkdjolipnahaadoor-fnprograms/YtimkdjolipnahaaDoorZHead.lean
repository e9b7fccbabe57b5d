/- pageHead of the program. -/
import Derived.Test.YtimkdjolipnahaaDoorZFmt
import Derived.Test.YtimkdjolipnahaaDoorZSumI
import Derived.Deep.RegionHeld3
namespace Go.Proofs.YtimkdjolipnahaaDoor
open Go.RowKit

theorem cell_later {w w' : World} {b o : Nat} {v : Value} (hb : Below w.heap.size w w') (h : w.cell? ⟨b, o, none⟩ = some v) : w'.cell? ⟨b, o, none⟩ = some v := by
  have hlt : b < w.heap.size := by
    rcases Nat.lt_or_ge b w.heap.size with h' | h'
    · exact h'
    · simp [World.cell?, Array.getElem?_eq_none h'] at h
  rw [hb.cell (p := ⟨b, o, none⟩) hlt]
  exact h
theorem bel_one (w : World) (o : Obj) : Below w.heap.size w (w.alloc o) := (Below.refl _ _).alloc (Nat.le_refl _) _
/-- Two cells of a box, whatever came later. -/
theorem keep2 {W a b : World} {N i j : Nat} {u v : Value} (k : Below a.heap.size a b) (h : Below W.heap.size W a ∧ a.cell? ⟨N, i, none⟩ = some u ∧ a.cell? ⟨N, j, none⟩ = some v) :
    Below W.heap.size W b ∧ b.cell? ⟨N, i, none⟩ = some u ∧ b.cell? ⟨N, j, none⟩ = some v :=
  ⟨bel_after h.1 k, cell_later k h.2.1, cell_later k h.2.2⟩
theorem keep4 {W a b : World} {N : Nat} {u v x y : Value} (k : Below a.heap.size a b) (h : Below W.heap.size W a ∧ a.cell? ⟨N, 0, none⟩ = some u ∧ a.cell? ⟨N, 1, none⟩ = some v ∧ a.cell? ⟨N, 2, none⟩ = some x ∧ a.cell? ⟨N, 3, none⟩ = some y) :
    Below W.heap.size W b ∧ b.cell? ⟨N, 0, none⟩ = some u ∧ b.cell? ⟨N, 1, none⟩ = some v ∧ b.cell? ⟨N, 2, none⟩ = some x ∧ b.cell? ⟨N, 3, none⟩ = some y :=
  ⟨bel_after h.1 k, cell_later k h.2.1, cell_later k h.2.2.1, cell_later k h.2.2.2.1, cell_later k h.2.2.2.2⟩
theorem Tb.held {W w : World} {q : Prop} (h : Tb W) (hb : Below W.heap.size W w ∧ q) : Tb w := h.later hb.1

/-- A page as the program holds it. -/
def pageV (n e s : Int) (b : ByteArray) : Value := .agg #[.int .i64 n, .int .i64 e, .int .i64 s, .string b]


theorem pageSum_size {n e : Int} {b : ByteArray} (h0 : -9223372036854775808 ≤ n) (h1 : n ≤ 9223372036854775807) (k0 : -9223372036854775808 ≤ e) (k1 : e ≤ 9223372036854775807) : (headS n e ++ b).size ≤ 42 + b.size := by
  have := headS_size h0 h1 k0 k1
  rw [ByteArray.size_append]
  omega


end Go.Proofs.YtimkdjolipnahaaDoor
