/- Disks in memory of their own, side by side: what is written into one leaves the others. -/
import Derived.Test.YtddocjmjianajaaZDBase
import Derived.Test.YtddocjmjianajaaZNewP
namespace Go.Proofs.Ytddocjmjianajaa.Disk
open Go.RowKit

/-- A disk whose rows lie in blocks from lo on and below hi. -/
structure DK (lo hi : Nat) (w : World) (v1 v2 : Value) (ss : List ByteArray) (ws : List Wr) : Prop where
  os1 : OS w 9 1 v1 ss.length
  os2 : OS w 42 2 v2 ws.length
  sr : SR w v1 ss
  wr : WR w v2 ws
  r1 : ∀ b, rowOf v1 ss.length = some b → lo ≤ b ∧ b < hi
  r2 : ∀ b, rowOf v2 ws.length = some b → lo ≤ b ∧ b < hi

theorem DK.of {lo : Nat} {w : World} {v1 v2 : Value} {ss : List ByteArray} {ws : List Wr} (h : ND lo w v1 v2 ss ws) : DK lo w.heap.size w v1 v2 ss ws :=
  ⟨h.1, h.2.1, h.2.2.1, h.2.2.2.1, fun b e => ⟨h.2.2.2.2.1 b e, h.1.row b e⟩, fun b e => ⟨h.2.2.2.2.2 b e, h.2.1.row b e⟩⟩

theorem DK.later {lo hi : Nat} {w w' : World} {v1 v2 : Value} {ss : List ByteArray} {ws : List Wr} (h : DK lo hi w v1 v2 ss ws) (hb : Below w.heap.size w w') : DK lo hi w' v1 v2 ss ws :=
  ⟨h.os1.later hb, h.os2.later hb, h.sr.later hb, h.wr.later hb, h.r1, h.r2⟩

theorem DK.al {lo hi : Nat} {w : World} {v1 v2 : Value} {ss : List ByteArray} {ws : List Wr} (h : DK lo hi w v1 v2 ss ws) (o : Obj) : DK lo hi (w.alloc o) v1 v2 ss ws := h.later (bel_one w o)

theorem DK.dr {lo hi : Nat} {w : World} {v1 v2 : Value} {ss : List ByteArray} {ws : List Wr} (h : DK lo hi w v1 v2 ss ws) (n : Nat) : DK lo hi (w.drewN n) v1 v2 ss ws := h.later (below_drewN (Below.refl _ _) n)

theorem DK.s1 {lo hi : Nat} {w : World} {v1 v2 : Value} {ss : List ByteArray} {ws : List Wr} (h : DK lo hi w v1 v2 ss ws) : ∃ ao n cap, v1 = .slice ao n cap := by
  obtain ⟨ao, cap, e, _⟩ := h.os1
  exact ⟨ao, _, cap, e⟩

theorem DK.s2 {lo hi : Nat} {w : World} {v1 v2 : Value} {ss : List ByteArray} {ws : List Wr} (h : DK lo hi w v1 v2 ss ws) : ∃ ao n cap, v2 = .slice ao n cap := by
  obtain ⟨ao, cap, e, _⟩ := h.os2
  exact ⟨ao, _, cap, e⟩

theorem DK.dr' {lo hi : Nat} {w : World} {v1 v2 : Value} {ss : List ByteArray} {ws : List Wr} (h : DK lo hi w v1 v2 ss ws) (h1 : ss.length ≤ 1000000000000000) (h2 : ws.length ≤ 1000000000000000) : DR w (.agg #[v1, v2]) ss ws :=
  ⟨v1, v2, rfl, h.sr, h.wr, h1, h2⟩

theorem OS.two {w w' : World} {t size : Nat} {v : Value} {n : Nat} {r1 r2 : Option Nat} (h : OS w t size v n) (T : Two w w' r1 r2) (h1 : ∀ b, rowOf v n = some b → some b ≠ r1 ∧ some b ≠ r2) : OS w' t size v n := by
  obtain ⟨ao, cap, rfl, h⟩ := h
  refine ⟨ao, cap, rfl, ?_⟩
  by_cases hn : n = 0
  · exact .inl hn
  · obtain ⟨b, N, f, rfl, hN, hr⟩ := h.resolve_left hn
    obtain ⟨e1, e2⟩ := h1 b (by rw [rowOf, if_neg hn]; rfl)
    exact .inr ⟨b, N, f, rfl, hN, hr.of_block (T.block b hr.lt e1 e2)⟩

theorem SR.two {w w' : World} {v : Value} {ss : List ByteArray} {r1 r2 : Option Nat} (h : SR w v ss) (T : Two w w' r1 r2) (h1 : ∀ b, rowOf v ss.length = some b → some b ≠ r1 ∧ some b ≠ r2) : SR w' v ss := by
  obtain ⟨ao, cap, rfl, h⟩ := h
  refine ⟨ao, cap, rfl, fun i hi => ?_⟩
  obtain ⟨b, o, rfl, hc⟩ := h i hi
  obtain ⟨e1, e2⟩ := h1 b (by rw [rowOf, if_neg (by omega)]; rfl)
  exact ⟨b, o, rfl, T.cell hc e1 e2⟩

theorem WR.two {w w' : World} {v : Value} {ws : List Wr} {r1 r2 : Option Nat} (h : WR w v ws) (T : Two w w' r1 r2) (h1 : ∀ b, rowOf v ws.length = some b → some b ≠ r1 ∧ some b ≠ r2) : WR w' v ws := by
  obtain ⟨ao, cap, rfl, h⟩ := h
  refine ⟨ao, cap, rfl, fun i hi => ?_⟩
  obtain ⟨b, o, rfl, hc, hd⟩ := h i hi
  obtain ⟨e1, e2⟩ := h1 b (by rw [rowOf, if_neg (by omega)]; rfl)
  exact ⟨b, o, rfl, T.cell hc e1 e2, T.cell hd e1 e2⟩

theorem in_ne {r : Option Nat} {lo hi b : Nat} (h : ∀ c, r = some c → lo ≤ c ∧ c < hi) (hb : b < lo ∨ hi ≤ b) : some b ≠ r := fun e => by
  have := h b e.symm
  omega

/-- The marks of one disk leave another one. -/
theorem DK.two {lo hi lo' hi' : Nat} {w w' : World} {v1 v2 : Value} {ss : List ByteArray} {ws : List Wr} {r1 r2 : Option Nat} (h : DK lo hi w v1 v2 ss ws) (T : Two w w' r1 r2) (hr1 : ∀ b, r1 = some b → lo' ≤ b ∧ b < hi') (hr2 : ∀ b, r2 = some b → lo' ≤ b ∧ b < hi') (hd : hi ≤ lo' ∨ hi' ≤ lo) : DK lo hi w' v1 v2 ss ws := by
  have key : ∀ b, lo ≤ b ∧ b < hi → some b ≠ r1 ∧ some b ≠ r2 := fun b hb => ⟨in_ne hr1 (by omega), in_ne hr2 (by omega)⟩
  exact ⟨h.os1.two T (fun b e => key b (h.r1 b e)), h.os2.two T (fun b e => key b (h.r2 b e)), h.sr.two T (fun b e => key b (h.r1 b e)), h.wr.two T (fun b e => key b (h.r2 b e)), h.r1, h.r2⟩

/-- A box of a disk's value. -/
def B2 (w : World) (b : Nat) (u v : Value) : Prop := w.cell? ⟨b, 0, none⟩ = some u ∧ w.cell? ⟨b, 1, none⟩ = some v
theorem B2.later {w w' : World} {b : Nat} {u v : Value} (h : B2 w b u v) (hb : Below w.heap.size w w') : B2 w' b u v := ⟨cell_later hb h.1, cell_later hb h.2⟩
theorem B2.al {w : World} {b : Nat} {u v : Value} (h : B2 w b u v) (o : Obj) : B2 (w.alloc o) b u v := h.later (bel_one w o)
theorem B2.new (w : World) (t : Nat) (u v : Value) : B2 (w.alloc (.cells #[u, v] t)) w.heap.size u v := ⟨cell_new w #[u, v] t _ rfl 0 _ rfl, cell_new w #[u, v] t _ rfl 1 _ rfl⟩
theorem B2.lt {w : World} {b : Nat} {u v : Value} (h : B2 w b u v) : b < w.heap.size := World.block_lt_of_cell? _ _ h.1
theorem B2.two {lo' hi' : Nat} {w w' : World} {b : Nat} {u v : Value} {r1 r2 : Option Nat} (h : B2 w b u v) (T : Two w w' r1 r2) (hr1 : ∀ b, r1 = some b → lo' ≤ b ∧ b < hi') (hr2 : ∀ b, r2 = some b → lo' ≤ b ∧ b < hi') (hd : b < lo' ∨ hi' ≤ b) : B2 w' b u v :=
  ⟨T.cell h.1 (in_ne hr1 hd) (in_ne hr2 hd), T.cell h.2 (in_ne hr1 hd) (in_ne hr2 hd)⟩

end Go.Proofs.Ytddocjmjianajaa.Disk
