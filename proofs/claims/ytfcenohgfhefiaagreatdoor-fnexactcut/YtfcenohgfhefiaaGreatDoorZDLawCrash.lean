/- The walk of the law on Crash. -/
import Derived.Test.YtfcenohgfhefiaaGreatDoorZDImplCrash
import Derived.Test.YtfcenohgfhefiaaGreatDoorZDBools2
import Derived.Test.YtfcenohgfhefiaaGreatDoorZDDk
import Derived.Test.YtfcenohgfhefiaaGreatDoorZDBase
import Derived.Deep.RegionWith
namespace Go.Proofs.YtfcenohgfhefiaaGreatDoor.Disk
open Go.RowKit

theorem crashS_length (bs : List Bool) (tn : Int) (ss : List ByteArray) (ws : List Wr) : (crashS bs tn ss ws).length ≤ ss.length := by
  unfold crashS
  split
  · rw [crashN_length]; exact Nat.le_refl _
  · simp

/-- Flags whose row lies in a block from lo on and below hi. -/
structure BK (lo hi : Nat) (w : World) (v : Value) (bs : List Bool) : Prop where
  os : OS w 4 1 v bs.length
  lr : LR w v bs
  r : ∀ b, rowOf v bs.length = some b → lo ≤ b ∧ b < hi

theorem BK.of {lo : Nat} {w : World} {v : Value} {bs : List Bool} (h : NB lo w v bs) : BK lo w.heap.size w v bs :=
  ⟨h.1, h.2.1, fun b e => ⟨h.2.2 b e, h.1.row b e⟩⟩
theorem BK.later {lo hi : Nat} {w w' : World} {v : Value} {bs : List Bool} (h : BK lo hi w v bs) (hb : Below w.heap.size w w') : BK lo hi w' v bs := ⟨h.os.later hb, h.lr.later hb, h.r⟩
theorem BK.s {lo hi : Nat} {w : World} {v : Value} {bs : List Bool} (h : BK lo hi w v bs) : ∃ ao n cap, v = .slice ao n cap := by
  obtain ⟨ao, cap, e, _⟩ := h.os
  exact ⟨ao, _, cap, e⟩
theorem LR.two {w w' : World} {v : Value} {bs : List Bool} {r1 r2 : Option Nat} (h : LR w v bs) (T : Two w w' r1 r2) (h1 : ∀ b, rowOf v bs.length = some b → some b ≠ r1 ∧ some b ≠ r2) : LR w' v bs := by
  obtain ⟨ao, cap, rfl, h⟩ := h
  refine ⟨ao, cap, rfl, fun i hi => ?_⟩
  obtain ⟨b, o, rfl, hc⟩ := h i hi
  obtain ⟨e1, e2⟩ := h1 b (by rw [rowOf, if_neg (by omega)]; rfl)
  exact ⟨b, o, rfl, T.cell hc e1 e2⟩
theorem BK.two {lo hi lo' hi' : Nat} {w w' : World} {v : Value} {bs : List Bool} {r1 r2 : Option Nat} (h : BK lo hi w v bs) (T : Two w w' r1 r2) (hr1 : ∀ b, r1 = some b → lo' ≤ b ∧ b < hi') (hr2 : ∀ b, r2 = some b → lo' ≤ b ∧ b < hi') (hd : hi ≤ lo' ∨ hi' ≤ lo) : BK lo hi w' v bs := by
  have key : ∀ b, lo ≤ b ∧ b < hi → some b ≠ r1 ∧ some b ≠ r2 := fun b hb => ⟨in_ne hr1 (by omega), in_ne hr2 (by omega)⟩
  exact ⟨h.os.two T (fun b e => key b (h.r b e)), h.lr.two T (fun b e => key b (h.r b e)), h.r⟩


end Go.Proofs.YtfcenohgfhefiaaGreatDoor.Disk
