/- Rows of texts and of writes in memory of their own, side by side. -/
import Derived.Test.YtfcenohgfhefiaaGreatDoorZDDkB
namespace Go.Proofs.YtfcenohgfhefiaaGreatDoor.Disk
open Go.RowKit

/-- Texts whose row lies in a block from lo on and below hi. -/
structure SK (lo hi : Nat) (w : World) (v : Value) (ss : List ByteArray) : Prop where
  os : OS w 9 1 v ss.length
  sr : SR w v ss
  r : ∀ b, rowOf v ss.length = some b → lo ≤ b ∧ b < hi
theorem SK.of {lo : Nat} {w : World} {v : Value} {ss : List ByteArray} (h : NS lo w v ss) : SK lo w.heap.size w v ss := ⟨h.1, h.2.1, fun b e => ⟨h.2.2 b e, h.1.row b e⟩⟩
theorem SK.later {lo hi : Nat} {w w' : World} {v : Value} {ss : List ByteArray} (h : SK lo hi w v ss) (hb : Below w.heap.size w w') : SK lo hi w' v ss := ⟨h.os.later hb, h.sr.later hb, h.r⟩
theorem SK.two {lo hi lo' hi' : Nat} {w w' : World} {v : Value} {ss : List ByteArray} {r1 r2 : Option Nat} (h : SK lo hi w v ss) (T : Two w w' r1 r2) (hr1 : ∀ b, r1 = some b → lo' ≤ b ∧ b < hi') (hr2 : ∀ b, r2 = some b → lo' ≤ b ∧ b < hi') (hd : hi ≤ lo' ∨ hi' ≤ lo) : SK lo hi w' v ss := by
  have key : ∀ b, lo ≤ b ∧ b < hi → some b ≠ r1 ∧ some b ≠ r2 := fun b hb => ⟨in_ne hr1 (by omega), in_ne hr2 (by omega)⟩
  exact ⟨h.os.two T (fun b e => key b (h.r b e)), h.sr.two T (fun b e => key b (h.r b e)), h.r⟩
/-- Writes, likewise. -/
structure WK (lo hi : Nat) (w : World) (v : Value) (ws : List Wr) : Prop where
  os : OS w 48 2 v ws.length
  wr : WR w v ws
  r : ∀ b, rowOf v ws.length = some b → lo ≤ b ∧ b < hi
theorem WK.of {lo : Nat} {w : World} {v : Value} {ws : List Wr} (h : NW lo w v ws) : WK lo w.heap.size w v ws := ⟨h.1, h.2.1, fun b e => ⟨h.2.2 b e, h.1.row b e⟩⟩
theorem WK.later {lo hi : Nat} {w w' : World} {v : Value} {ws : List Wr} (h : WK lo hi w v ws) (hb : Below w.heap.size w w') : WK lo hi w' v ws := ⟨h.os.later hb, h.wr.later hb, h.r⟩
theorem WK.two {lo hi lo' hi' : Nat} {w w' : World} {v : Value} {ws : List Wr} {r1 r2 : Option Nat} (h : WK lo hi w v ws) (T : Two w w' r1 r2) (hr1 : ∀ b, r1 = some b → lo' ≤ b ∧ b < hi') (hr2 : ∀ b, r2 = some b → lo' ≤ b ∧ b < hi') (hd : hi ≤ lo' ∨ hi' ≤ lo) : WK lo hi w' v ws := by
  have key : ∀ b, lo ≤ b ∧ b < hi → some b ≠ r1 ∧ some b ≠ r2 := fun b hb => ⟨in_ne hr1 (by omega), in_ne hr2 (by omega)⟩
  exact ⟨h.os.two T (fun b e => key b (h.r b e)), h.wr.two T (fun b e => key b (h.r b e)), h.r⟩
theorem Two.one {w w' : World} {r : Option Nat} (h : w.grownBy w' r) : Two w w' r none := Two.mk' (Below.refl _ _) h (World.grownBy.refl _ _)
theorem none_in {lo hi : Nat} : ∀ b, (none : Option Nat) = some b → lo ≤ b ∧ b < hi := fun b e => by cases e
theorem Two.bel {w a b : World} {B lo hi : Nat} {r1 r2 : Option Nat} (h : Below B w a) (T : Two a b r1 r2) (hB : B ≤ a.heap.size) (hr1 : ∀ b, r1 = some b → lo ≤ b ∧ b < hi) (hr2 : ∀ b, r2 = some b → lo ≤ b ∧ b < hi) (hlo : B ≤ lo) : Below B w b :=
  h.trans (T.below hB (fun b e => by have := hr1 b e; omega) (fun b e => by have := hr2 b e; omega))

end Go.Proofs.YtfcenohgfhefiaaGreatDoor.Disk
