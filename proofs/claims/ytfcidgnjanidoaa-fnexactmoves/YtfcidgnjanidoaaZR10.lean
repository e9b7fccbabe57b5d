import Derived.Test.YtfcidgnjanidoaaZMApp
import Derived.Test.YtfcidgnjanidoaaZR8
/- A heap is copied by the model: what is known on the way. -/
namespace Go.Proofs.Ytfcidgnjanidoaa
open Go.RowKit

theorem empty_at {w : World} {n : Nat} (h : w.heap.size = n) : RI (w.alloc (.cells #[] 2)) n [] 0 := by
  subst h
  exact empty_ri w
theorem Disk.cell_set {w : World} {b t n i : Nat} {f : Nat → Value} (h : w.rowIs b t n f) (hi : i < n) (u : Value) : (w.setCell ⟨b, i, none⟩ u).cell? ⟨b, i, none⟩ = some u := by
  rw [(h.set i u).cell hi, if_pos rfl]

/-- The box of a heap and the box of a result, one behind the other, at the end of what was there. -/
structure CS (w W : World) (u0 u1 u2 u3 u4 u5 u6 u7 : Value) : Prop where
  bel : Below w.heap.size w W
  lt : w.heap.size + 1 < W.heap.size
  c0 : W.cell? ⟨w.heap.size, 0, none⟩ = some u0
  c1 : W.cell? ⟨w.heap.size, 1, none⟩ = some u1
  c2 : W.cell? ⟨w.heap.size, 2, none⟩ = some u2
  c3 : W.cell? ⟨w.heap.size, 3, none⟩ = some u3
  c4 : W.cell? ⟨w.heap.size, 4, none⟩ = some u4
  c5 : W.cell? ⟨w.heap.size, 5, none⟩ = some u5
  c6 : W.cell? ⟨w.heap.size, 6, none⟩ = some u6
  c7 : W.cell? ⟨w.heap.size, 7, none⟩ = some u7
  box : ∃ f, W.rowIs w.heap.size 26 8 f
  res : ∃ f, W.rowIs (w.heap.size + 1) 26 8 f
theorem CS.set0 {w W : World} {u0 u1 u2 u3 u4 u5 u6 u7 : Value} (h : CS w W u0 u1 u2 u3 u4 u5 u6 u7) (u : Value) : CS w (W.setCell ⟨w.heap.size, 0, none⟩ u) u u1 u2 u3 u4 u5 u6 u7 := by
  obtain ⟨f, F⟩ := h.box
  obtain ⟨g, G⟩ := h.res
  have e : ∀ o v, o ≠ 0 → W.cell? ⟨w.heap.size, o, none⟩ = some v → (W.setCell ⟨w.heap.size, 0, none⟩ u).cell? ⟨w.heap.size, o, none⟩ = some v := fun o v ho q => by
    rw [World.cell?_setCell_other]
    · exact q
    · intro k
      simp at k <;> omega
  exact ⟨h.bel.setCell (p := ⟨w.heap.size, 0, none⟩) (Nat.le_refl _) _, by have := h.lt; simpa using this, Disk.cell_set F (by omega) u, e _ _ (by omega) h.c1, e _ _ (by omega) h.c2, e _ _ (by omega) h.c3, e _ _ (by omega) h.c4, e _ _ (by omega) h.c5, e _ _ (by omega) h.c6, e _ _ (by omega) h.c7, ⟨_, F.set 0 u⟩, ⟨_, G.setOther (a := ⟨w.heap.size, 0, none⟩) (Nat.succ_ne_self _) u⟩⟩
theorem CS.set1 {w W : World} {u0 u1 u2 u3 u4 u5 u6 u7 : Value} (h : CS w W u0 u1 u2 u3 u4 u5 u6 u7) (u : Value) : CS w (W.setCell ⟨w.heap.size, 1, none⟩ u) u0 u u2 u3 u4 u5 u6 u7 := by
  obtain ⟨f, F⟩ := h.box
  obtain ⟨g, G⟩ := h.res
  have e : ∀ o v, o ≠ 1 → W.cell? ⟨w.heap.size, o, none⟩ = some v → (W.setCell ⟨w.heap.size, 1, none⟩ u).cell? ⟨w.heap.size, o, none⟩ = some v := fun o v ho q => by
    rw [World.cell?_setCell_other]
    · exact q
    · intro k
      simp at k <;> omega
  exact ⟨h.bel.setCell (p := ⟨w.heap.size, 1, none⟩) (Nat.le_refl _) _, by have := h.lt; simpa using this, e _ _ (by omega) h.c0, Disk.cell_set F (by omega) u, e _ _ (by omega) h.c2, e _ _ (by omega) h.c3, e _ _ (by omega) h.c4, e _ _ (by omega) h.c5, e _ _ (by omega) h.c6, e _ _ (by omega) h.c7, ⟨_, F.set 1 u⟩, ⟨_, G.setOther (a := ⟨w.heap.size, 1, none⟩) (Nat.succ_ne_self _) u⟩⟩
theorem CS.set7 {w W : World} {u0 u1 u2 u3 u4 u5 u6 u7 : Value} (h : CS w W u0 u1 u2 u3 u4 u5 u6 u7) (u : Value) : CS w (W.setCell ⟨w.heap.size, 7, none⟩ u) u0 u1 u2 u3 u4 u5 u6 u := by
  obtain ⟨f, F⟩ := h.box
  obtain ⟨g, G⟩ := h.res
  have e : ∀ o v, o ≠ 7 → W.cell? ⟨w.heap.size, o, none⟩ = some v → (W.setCell ⟨w.heap.size, 7, none⟩ u).cell? ⟨w.heap.size, o, none⟩ = some v := fun o v ho q => by
    rw [World.cell?_setCell_other]
    · exact q
    · intro k
      simp at k <;> omega
  exact ⟨h.bel.setCell (p := ⟨w.heap.size, 7, none⟩) (Nat.le_refl _) _, by have := h.lt; simpa using this, e _ _ (by omega) h.c0, e _ _ (by omega) h.c1, e _ _ (by omega) h.c2, e _ _ (by omega) h.c3, e _ _ (by omega) h.c4, e _ _ (by omega) h.c5, e _ _ (by omega) h.c6, Disk.cell_set F (by omega) u, ⟨_, F.set 7 u⟩, ⟨_, G.setOther (a := ⟨w.heap.size, 7, none⟩) (Nat.succ_ne_self _) u⟩⟩
theorem CS.later {w W W' : World} {u0 u1 u2 u3 u4 u5 u6 u7 : Value} (h : CS w W u0 u1 u2 u3 u4 u5 u6 u7) (hb : Below W.heap.size W W') : CS w W' u0 u1 u2 u3 u4 u5 u6 u7 := by
  obtain ⟨f, F⟩ := h.box
  obtain ⟨g, G⟩ := h.res
  exact ⟨h.bel.trans (hb.mono h.bel.size), by have := h.lt; have := hb.size; omega, cell_later hb h.c0, cell_later hb h.c1, cell_later hb h.c2, cell_later hb h.c3, cell_later hb h.c4, cell_later hb h.c5, cell_later hb h.c6, cell_later hb h.c7, ⟨_, F.of_block (hb.block _ F.lt)⟩, ⟨_, G.of_block (hb.block _ G.lt)⟩⟩
theorem CS.grown {w W W' : World} {g : Nat} {u0 u1 u2 u3 u4 u5 u6 u7 : Value} (h : CS w W u0 u1 u2 u3 u4 u5 u6 u7) (hg : W.grownBy W' (some g)) (hr : w.heap.size + 1 < g) : CS w W' u0 u1 u2 u3 u4 u5 u6 u7 := by
  obtain ⟨f, F⟩ := h.box
  obtain ⟨k, G⟩ := h.res
  have n1 : some w.heap.size ≠ some g := fun e => by cases e; omega
  have n2 : some (w.heap.size + 1) ≠ some g := fun e => by injection e; omega
  exact ⟨Below.grown h.bel hg h.bel.size (fun k hk => by cases hk; omega), by have := h.lt; have := hg.size; omega, hg.cell h.c0 n1, hg.cell h.c1 n1, hg.cell h.c2 n1, hg.cell h.c3 n1, hg.cell h.c4 n1, hg.cell h.c5 n1, hg.cell h.c6 n1, hg.cell h.c7 n1, ⟨_, F.of_block (hg.block _ F.lt n1)⟩, ⟨_, G.of_block (hg.block _ G.lt n2)⟩⟩
theorem CS.new (w : World) (u0 u1 u2 u3 u4 u5 u6 u7 : Value) : CS w ((w.alloc (.cells #[u0, u1, u2, u3, u4, u5, u6, u7] 26)).alloc (.cells #[.slice none 0 0, .slice none 0 0, .int .i64 0, .int .i64 0, .int .i64 0, .bool false, .int .i64 0, .slice none 0 0] 26)) u0 u1 u2 u3 u4 u5 u6 u7 := by
  have q := row_any w #[u0, u1, u2, u3, u4, u5, u6, u7] 26
  have q' := row_any (w.alloc (.cells #[u0, u1, u2, u3, u4, u5, u6, u7] 26)) #[.slice none 0 0, .slice none 0 0, .int .i64 0, .int .i64 0, .int .i64 0, .bool false, .int .i64 0, .slice none 0 0] 26
  rw [World.size_alloc] at q'
  have b := bel_one (w.alloc (.cells #[u0, u1, u2, u3, u4, u5, u6, u7] 26)) (.cells #[.slice none 0 0, .slice none 0 0, .int .i64 0, .int .i64 0, .int .i64 0, .bool false, .int .i64 0, .slice none 0 0] 26)
  exact ⟨bel_after (bel_one _ _) b, by simp, cell_later b (cell_new w _ _ _ rfl 0 _ rfl), cell_later b (cell_new w _ _ _ rfl 1 _ rfl), cell_later b (cell_new w _ _ _ rfl 2 _ rfl), cell_later b (cell_new w _ _ _ rfl 3 _ rfl), cell_later b (cell_new w _ _ _ rfl 4 _ rfl), cell_later b (cell_new w _ _ _ rfl 5 _ rfl), cell_later b (cell_new w _ _ _ rfl 6 _ rfl), cell_later b (cell_new w _ _ _ rfl 7 _ rfl), ⟨_, q.of_block (b.block _ q.lt)⟩, ⟨_, q'⟩⟩


end Go.Proofs.Ytfcidgnjanidoaa

/- An operation whose guard does not hold, in a region that draws its order. -/
namespace Go.Proofs.Ytfcidgnjanidoaa.Disk
open Go

theorem z_pass {P : Program} {md : Region.Mode} {ops : Array Oper} {R : Act → World → Prop} {S : World → Prop} {z : Nat} (i d : Nat) {oi : Oper} {fuel : Nat} {listed : Array Bool} {T : Array Value} {D : List Deferred} {w : World} (hi : ops[i]? = some oi) (hd : oi.dst = some d)
    (hz : waitsB md ops z i = true) (hs : Region.noSelect ops = true) (hf : Region.free md ops listed i = true) (hr : (Region.ready md ops listed).contains i = true)
    (hw : Region.wanted oi (yielded ops T) = false) (hS : S w)
    (h : wpAnyZ P md ops (Ends R) z S fuel (listed.setIfInBounds i true) ⟨T.setIfInBounds d undef, D⟩ w) : wpAnyZ P md ops (Ends R) z S (fuel + 1) listed ⟨T, D⟩ w :=
  wpAnyZ_first hi hz (Region.noSelect_spec hs) ends_panic fuel listed _ w (Region.free_spec hi hf) (by simpa using hr) (Or.inr ⟨hw, rfl⟩) hS (by rw [hd]; exact h)

end Go.Proofs.Ytfcidgnjanidoaa.Disk
