/- Set of the model. -/
import Derived.Test.YtaldfkfjmgkjbaaZFSpec
import Derived.Test.YtaldfkfjmgkjbaaZHSpecL2
import Derived.Test.YtaldfkfjmgkjbaaZMBox
import Derived.Test.YtaldfkfjmgkjbaaZDZed
import Derived.Test.YtaldfkfjmgkjbaaZHM
namespace Go.Proofs.Ytaldfkfjmgkjbaa
open Go.RowKit

/-- The box of a heap. -/
structure HX (W : World) (N : Nat) (u0 u1 u2 u3 u4 u5 u6 u7 : Value) : Prop where
  c0 : W.cell? ⟨N, 0, none⟩ = some u0
  c1 : W.cell? ⟨N, 1, none⟩ = some u1
  c2 : W.cell? ⟨N, 2, none⟩ = some u2
  c3 : W.cell? ⟨N, 3, none⟩ = some u3
  c4 : W.cell? ⟨N, 4, none⟩ = some u4
  c5 : W.cell? ⟨N, 5, none⟩ = some u5
  c6 : W.cell? ⟨N, 6, none⟩ = some u6
  c7 : W.cell? ⟨N, 7, none⟩ = some u7
  row : ∃ f, W.rowIs N 26 8 f
theorem HX.lt {W : World} {N : Nat} {u0 u1 u2 u3 u4 u5 u6 u7 : Value} (h : HX W N u0 u1 u2 u3 u4 u5 u6 u7) : N < W.heap.size := by
  obtain ⟨f, F⟩ := h.row
  exact F.lt
theorem HX.frozen {W : World} {N : Nat} {u0 u1 u2 u3 u4 u5 u6 u7 : Value} (h : HX W N u0 u1 u2 u3 u4 u5 u6 u7) (j : Nat) : W.frozen? ⟨N, j, none⟩ = false := by
  obtain ⟨f, F⟩ := h.row
  exact F.frozen j
theorem HX.block {W W' : World} {N : Nat} {u0 u1 u2 u3 u4 u5 u6 u7 : Value} (h : HX W N u0 u1 u2 u3 u4 u5 u6 u7) (hb : W'.heap[N]? = W.heap[N]?) : HX W' N u0 u1 u2 u3 u4 u5 u6 u7 := by
  obtain ⟨f, F⟩ := h.row
  have e : ∀ o u, W.cell? ⟨N, o, none⟩ = some u → W'.cell? ⟨N, o, none⟩ = some u := fun o u q => (World.cell?_of_block (w := W) (a := ⟨N, o, none⟩) hb).trans q
  exact ⟨e _ _ h.c0, e _ _ h.c1, e _ _ h.c2, e _ _ h.c3, e _ _ h.c4, e _ _ h.c5, e _ _ h.c6, e _ _ h.c7, ⟨f, F.of_block hb⟩⟩
theorem HX.later {W W' : World} {N : Nat} {u0 u1 u2 u3 u4 u5 u6 u7 : Value} (h : HX W N u0 u1 u2 u3 u4 u5 u6 u7) (hb : Below W.heap.size W W') : HX W' N u0 u1 u2 u3 u4 u5 u6 u7 := h.block (hb.block _ h.lt)
theorem HX.grown {W W' : World} {N : Nat} {r : Option Nat} {u0 u1 u2 u3 u4 u5 u6 u7 : Value} (h : HX W N u0 u1 u2 u3 u4 u5 u6 u7) (hg : W.grownBy W' r) (hr : some N ≠ r) : HX W' N u0 u1 u2 u3 u4 u5 u6 u7 := h.block (hg.block _ h.lt hr)
theorem HX.set {W : World} {N b i : Nat} {u0 u1 u2 u3 u4 u5 u6 u7 : Value} (h : HX W N u0 u1 u2 u3 u4 u5 u6 u7) (hb : N ≠ b) (v : Value) : HX (W.setCell ⟨b, i, none⟩ v) N u0 u1 u2 u3 u4 u5 u6 u7 := h.block (Below.heap_setCell _ _ _ _ hb)
theorem HX.set7 {W : World} {N : Nat} {u0 u1 u2 u3 u4 u5 u6 u7 : Value} (h : HX W N u0 u1 u2 u3 u4 u5 u6 u7) (v : Value) : HX (W.setCell ⟨N, 7, none⟩ v) N u0 u1 u2 u3 u4 u5 u6 v := by
  obtain ⟨f, F⟩ := h.row
  have F' := F.set 7 v
  have e : ∀ o u, o ≠ 7 → W.cell? ⟨N, o, none⟩ = some u → (W.setCell ⟨N, 7, none⟩ v).cell? ⟨N, o, none⟩ = some u := fun o u ho q => by
    rw [World.cell?_setCell_other]
    · exact q
    · intro k
      simp at k <;> omega
  exact ⟨e _ _ (by omega) h.c0, e _ _ (by omega) h.c1, e _ _ (by omega) h.c2, e _ _ (by omega) h.c3, e _ _ (by omega) h.c4, e _ _ (by omega) h.c5, e _ _ (by omega) h.c6, by rw [F'.cell (by omega), if_pos rfl], ⟨_, F'⟩⟩
theorem HX.new (w : World) (u0 u1 u2 u3 u4 u5 u6 u7 : Value) : HX (w.alloc (.cells #[u0, u1, u2, u3, u4, u5, u6, u7] 26)) w.heap.size u0 u1 u2 u3 u4 u5 u6 u7 :=
  ⟨cell_new w _ _ _ rfl 0 _ rfl, cell_new w _ _ _ rfl 1 _ rfl, cell_new w _ _ _ rfl 2 _ rfl, cell_new w _ _ _ rfl 3 _ rfl, cell_new w _ _ _ rfl 4 _ rfl, cell_new w _ _ _ rfl 5 _ rfl, cell_new w _ _ _ rfl 6 _ rfl, cell_new w _ _ _ rfl 7 _ rfl, ⟨_, row_any w _ 26⟩⟩
theorem own_os {w : World} {B n : Nat} {v : Value} {xs : List Value} (h : w.ownsRow B 2 1 v n xs) : Disk.OS w 2 1 v n ∧ ∀ b, Disk.rowOf v n = some b → B ≤ b := by
  rcases h.2 with ⟨rfl, rfl⟩ | ⟨g, cap, cur, rfl, hB, hh, h1, h2, h3, h4⟩
  · exact ⟨⟨_, _, rfl, .inl rfl⟩, fun b q => (zero_row q).elim⟩
  · exact ⟨⟨_, _, rfl, .inr ⟨g, cur.size, fun i => cur[i]?.getD undef, rfl, by omega, ⟨cur, hh, rfl, fun i hi => by simp [hi]⟩⟩⟩, fun b q => by have := rowof q; omega⟩
theorem HN.of_own3 {B B3 g1 g2 c1 c2 : Nat} {w : World} {v3 : Value} {h : Hp} (r1 : RI w g1 h.words c1) (r2 : RI w g2 h.roots c2) (o3 : w.ownsRow B3 2 1 v3 h.kept.length (icells h.kept))
    (b1 : B ≤ g1) (b2 : B ≤ g2) (_b3 : B ≤ B3) (d12 : g1 ≠ g2) (d13 : g1 < B3) (d23 : g2 < B3) :
    HN B w (.agg #[.slice (some ⟨g1, 0, none⟩) h.words.length c1, .slice (some ⟨g2, 0, none⟩) h.roots.length c2, .int .i64 h.old, .int .i64 h.eden, .int .i64 h.surv, .bool h.flip, .int .i64 h.hash, v3]) h := by
  obtain ⟨s3, k3⟩ := own_os o3
  exact ⟨_, _, _, rfl, ⟨r1.os, r2.os, s3⟩, ⟨r1.ir r1.le, r2.ir r2.le, IR_of_owns o3⟩, ⟨fun b k => by have := rowof k; omega, fun b k => by have := rowof k; omega, fun b k => by have := k3 b k; omega⟩,
    fun b k k' => by have := rowof k; have := rowof k'; omega, fun b k k' => by have := rowof k; have := k3 b k'; omega, fun b k k' => by have := rowof k; have := k3 b k'; omega⟩
theorem own_block {w w' : World} {B n : Nat} {v : Value} {xs : List Value} (h : w.ownsRow B 2 1 v n xs) (hb : ∀ b, B ≤ b → w'.heap[b]? = w.heap[b]?) : w'.ownsRow B 2 1 v n xs := by
  obtain ⟨hl, h⟩ := h
  refine ⟨hl, ?_⟩
  rcases h with e | ⟨g, cap, cur, e, hB, hh, r⟩
  · exact .inl e
  · exact .inr ⟨g, cap, cur, e, hB, (hb g hB).trans hh, r⟩



end Go.Proofs.Ytaldfkfjmgkjbaa
