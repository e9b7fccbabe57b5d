import Derived.Test.YtjclpbaiiklhcaaGreatDoorZDBase
import Derived.Test.YtjclpbaiiklhcaaGreatDoorZV9
import Derived.Test.YtjclpbaiiklhcaaGreatDoorZV3
import Derived.Test.YtjclpbaiiklhcaaGreatDoorZV14
/- Disks in memory of their own, side by side: what is written into one leaves the others. -/
namespace Go.Proofs.YtjclpbaiiklhcaaGreatDoor.Disk
open Go.RowKit

/-- A disk whose rows lie in blocks from lo on and below hi. -/
structure DK (lo hi : Nat) (w : World) (v1 v2 : Value) (ss : List ByteArray) (ws : List Wr) : Prop where
  os1 : OS w 9 1 v1 ss.length
  os2 : OS w 48 2 v2 ws.length
  sr : SR w v1 ss
  wr : WR w v2 ws
  r1 : ∀ b, rowOf v1 ss.length = some b → lo ≤ b ∧ b < hi
  r2 : ∀ b, rowOf v2 ws.length = some b → lo ≤ b ∧ b < hi

theorem DK.of {lo : Nat} {w : World} {v1 v2 : Value} {ss : List ByteArray} {ws : List Wr} (h : ND lo w v1 v2 ss ws) : DK lo w.heap.size w v1 v2 ss ws :=
  ⟨h.1, h.2.1, h.2.2.1, h.2.2.2.1, fun b e => ⟨h.2.2.2.2.1 b e, h.1.row b e⟩, fun b e => ⟨h.2.2.2.2.2 b e, h.2.1.row b e⟩⟩

theorem DK.later {lo hi : Nat} {w w' : World} {v1 v2 : Value} {ss : List ByteArray} {ws : List Wr} (h : DK lo hi w v1 v2 ss ws) (hb : Below w.heap.size w w') : DK lo hi w' v1 v2 ss ws :=
  ⟨h.os1.later hb, h.os2.later hb, h.sr.later hb, h.wr.later hb, h.r1, h.r2⟩

theorem DK.al {lo hi : Nat} {w : World} {v1 v2 : Value} {ss : List ByteArray} {ws : List Wr} (h : DK lo hi w v1 v2 ss ws) (o : Obj) : DK lo hi (w.alloc o) v1 v2 ss ws := h.later (bel_one w o)

theorem DK.dr {lo hi : Nat} {w : World} {v1 v2 : Value} {ss : List ByteArray} {ws : List Wr} (h : DK lo hi w v1 v2 ss ws) (n : Nat) : DK lo hi (w.drewN n) v1 v2 ss ws := h.later (below_drewN (Below.refl _ _) n)

theorem DK.s1 {lo hi : Nat} {w : World} {v1 v2 : Value} {ss : List ByteArray} {ws : List Wr} (h : DK lo hi w v1 v2 ss ws) : ∃ ao n cap, v1 = .slice ao n cap := by
  obtain ⟨ao, cap, e, _⟩ := h.os1
  exact ⟨ao, _, cap, e⟩

theorem DK.s2 {lo hi : Nat} {w : World} {v1 v2 : Value} {ss : List ByteArray} {ws : List Wr} (h : DK lo hi w v1 v2 ss ws) : ∃ ao n cap, v2 = .slice ao n cap := by
  obtain ⟨ao, cap, e, _⟩ := h.os2
  exact ⟨ao, _, cap, e⟩

theorem DK.dr' {lo hi : Nat} {w : World} {v1 v2 : Value} {ss : List ByteArray} {ws : List Wr} (h : DK lo hi w v1 v2 ss ws) (h1 : ss.length ≤ 1000000000000000) (h2 : ws.length ≤ 1000000000000000) : DR w (.agg #[v1, v2]) ss ws :=
  ⟨v1, v2, rfl, h.sr, h.wr, h1, h2⟩

theorem OS.two {w w' : World} {t size : Nat} {v : Value} {n : Nat} {r1 r2 : Option Nat} (h : OS w t size v n) (T : Two w w' r1 r2) (h1 : ∀ b, rowOf v n = some b → some b ≠ r1 ∧ some b ≠ r2) : OS w' t size v n := by
  obtain ⟨ao, cap, rfl, h⟩ := h
  refine ⟨ao, cap, rfl, ?_⟩
  by_cases hn : n = 0
  · exact .inl hn
  · obtain ⟨b, N, f, rfl, hN, hr⟩ := h.resolve_left hn
    obtain ⟨e1, e2⟩ := h1 b (by rw [rowOf, if_neg hn]; rfl)
    exact .inr ⟨b, N, f, rfl, hN, hr.of_block (T.block b hr.lt e1 e2)⟩

theorem SR.two {w w' : World} {v : Value} {ss : List ByteArray} {r1 r2 : Option Nat} (h : SR w v ss) (T : Two w w' r1 r2) (h1 : ∀ b, rowOf v ss.length = some b → some b ≠ r1 ∧ some b ≠ r2) : SR w' v ss := by
  obtain ⟨ao, cap, rfl, h⟩ := h
  refine ⟨ao, cap, rfl, fun i hi => ?_⟩
  obtain ⟨b, o, rfl, hc⟩ := h i hi
  obtain ⟨e1, e2⟩ := h1 b (by rw [rowOf, if_neg (by omega)]; rfl)
  exact ⟨b, o, rfl, T.cell hc e1 e2⟩

theorem WR.two {w w' : World} {v : Value} {ws : List Wr} {r1 r2 : Option Nat} (h : WR w v ws) (T : Two w w' r1 r2) (h1 : ∀ b, rowOf v ws.length = some b → some b ≠ r1 ∧ some b ≠ r2) : WR w' v ws := by
  obtain ⟨ao, cap, rfl, h⟩ := h
  refine ⟨ao, cap, rfl, fun i hi => ?_⟩
  obtain ⟨b, o, rfl, hc, hd⟩ := h i hi
  obtain ⟨e1, e2⟩ := h1 b (by rw [rowOf, if_neg (by omega)]; rfl)
  exact ⟨b, o, rfl, T.cell hc e1 e2, T.cell hd e1 e2⟩

theorem in_ne {r : Option Nat} {lo hi b : Nat} (h : ∀ c, r = some c → lo ≤ c ∧ c < hi) (hb : b < lo ∨ hi ≤ b) : some b ≠ r := fun e => by
  have := h b e.symm
  omega

/-- The marks of one disk leave another one. -/
theorem DK.two {lo hi lo' hi' : Nat} {w w' : World} {v1 v2 : Value} {ss : List ByteArray} {ws : List Wr} {r1 r2 : Option Nat} (h : DK lo hi w v1 v2 ss ws) (T : Two w w' r1 r2) (hr1 : ∀ b, r1 = some b → lo' ≤ b ∧ b < hi') (hr2 : ∀ b, r2 = some b → lo' ≤ b ∧ b < hi') (hd : hi ≤ lo' ∨ hi' ≤ lo) : DK lo hi w' v1 v2 ss ws := by
  have key : ∀ b, lo ≤ b ∧ b < hi → some b ≠ r1 ∧ some b ≠ r2 := fun b hb => ⟨in_ne hr1 (by omega), in_ne hr2 (by omega)⟩
  exact ⟨h.os1.two T (fun b e => key b (h.r1 b e)), h.os2.two T (fun b e => key b (h.r2 b e)), h.sr.two T (fun b e => key b (h.r1 b e)), h.wr.two T (fun b e => key b (h.r2 b e)), h.r1, h.r2⟩

/-- A box of a disk's value. -/
def B2 (w : World) (b : Nat) (u v : Value) : Prop := w.cell? ⟨b, 0, none⟩ = some u ∧ w.cell? ⟨b, 1, none⟩ = some v
theorem B2.later {w w' : World} {b : Nat} {u v : Value} (h : B2 w b u v) (hb : Below w.heap.size w w') : B2 w' b u v := ⟨cell_later hb h.1, cell_later hb h.2⟩
theorem B2.al {w : World} {b : Nat} {u v : Value} (h : B2 w b u v) (o : Obj) : B2 (w.alloc o) b u v := h.later (bel_one w o)
theorem B2.new (w : World) (t : Nat) (u v : Value) : B2 (w.alloc (.cells #[u, v] t)) w.heap.size u v := ⟨cell_new w #[u, v] t _ rfl 0 _ rfl, cell_new w #[u, v] t _ rfl 1 _ rfl⟩
theorem B2.lt {w : World} {b : Nat} {u v : Value} (h : B2 w b u v) : b < w.heap.size := World.block_lt_of_cell? _ _ h.1
theorem B2.two {lo' hi' : Nat} {w w' : World} {b : Nat} {u v : Value} {r1 r2 : Option Nat} (h : B2 w b u v) (T : Two w w' r1 r2) (hr1 : ∀ b, r1 = some b → lo' ≤ b ∧ b < hi') (hr2 : ∀ b, r2 = some b → lo' ≤ b ∧ b < hi') (hd : b < lo' ∨ hi' ≤ b) : B2 w' b u v :=
  ⟨T.cell h.1 (in_ne hr1 hd) (in_ne hr2 hd), T.cell h.2 (in_ne hr1 hd) (in_ne hr2 hd)⟩

end Go.Proofs.YtjclpbaiiklhcaaGreatDoor.Disk

/- markInt64S, heldInt64S: marks laid in a row of numbers are held. -/
namespace Go.Proofs.YtjclpbaiiklhcaaGreatDoor
open Go.RowKit

def imarks (k : Int) (n : Nat) : List Int := (List.range n).map fun i : Nat => k + i
theorem imarks_length (k : Int) (n : Nat) : (imarks k n).length = n := by simp [imarks]
theorem imarks_get (k : Int) (n i : Nat) (h : i < n) : (imarks k n).getD i 0 = k + i := by simp [imarks, h]

theorem OS_of_owns {w : World} {B e n : Nat} {v : Value} {xs : List Value} (h : w.ownsRow B e 1 v n xs) : Disk.OS w e 1 v n := by
  obtain ⟨hl, h⟩ := h
  rcases h with ⟨rfl, rfl⟩ | ⟨g, cap, cur, rfl, hB, hh, h1, h2, h3, h4⟩
  · exact ⟨none, 0, rfl, .inl rfl⟩
  · exact ⟨_, cap, rfl, .inr ⟨g, cur.size, fun i => cur[i]?.getD undef, rfl, by omega, cur, hh, rfl, fun i hi => by simp [hi]⟩⟩
theorem row_of_owns {w : World} {B e n : Nat} {v : Value} {xs : List Value} (h : w.ownsRow B e 1 v n xs) : ∀ b, Disk.rowOf v n = some b → B ≤ b := by
  intro b hb
  obtain ⟨hl, h⟩ := h
  rcases h with ⟨rfl, rfl⟩ | ⟨g, cap, cur, rfl, hB, hh, h1, h2, h3, h4⟩
  · simp [Disk.rowOf] at hb
  · unfold Disk.rowOf at hb
    split at hb
    · cases hb
    · simp [Value.ownBlock] at hb
      omega

theorem IR.grown {w w' : World} {v : Value} {l : List Int} {row : Option Nat} (h : IR w v l) (hg : w.grownBy w' row) (hne : l = [] ∨ v.ownBlock ≠ row) : IR w' v l := by
  obtain ⟨ao, cap, rfl, hle, h⟩ := h
  refine ⟨ao, cap, rfl, hle, fun i hi => ?_⟩
  obtain ⟨b, o, rfl, hc⟩ := h i hi
  rcases hne with rfl | hne
  · simp at hi
  · exact ⟨b, o, rfl, hg.cell hc hne⟩
theorem IR.low {w w' : World} {v : Value} {l : List Int} {row : Option Nat} {B : Nat} (h : IR w v l) (hg : w.grownBy w' row) (hB : ∀ a n c, v = .slice (some a) n c → 0 < n → a.block < B) (hr : ∀ b, row = some b → B ≤ b) : IR w' v l := by
  by_cases hl : l = []
  · exact h.grown hg (.inl hl)
  · obtain ⟨ao, cap, rfl, hle, h'⟩ := id h
    have hp : 0 < l.length := by cases l with | nil => exact absurd rfl hl | cons _ _ => simp
    obtain ⟨b, o, rfl, hc⟩ := h' 0 hp
    refine h.grown hg (.inr fun e => ?_)
    have h1 := hB _ _ _ rfl hp
    have h2 := hr b e.symm
    simp at h1
    omega
theorem IR.lt {w : World} {v : Value} {l : List Int} (h : IR w v l) : ∀ a n c, v = .slice (some a) n c → 0 < n → a.block < w.heap.size := by
  obtain ⟨ao, cap, rfl, hle, h⟩ := h
  intro a n c e hp
  simp only [Value.slice.injEq] at e
  obtain ⟨rfl, rfl, _⟩ := e
  obtain ⟨b, o, e2, hc⟩ := h 0 hp
  simp only [Option.some.injEq] at e2
  subst e2
  exact World.block_lt_of_cell? _ _ hc

theorem irow_mark {w : World} {b N j : Nat} {k : Int} {f : Nat → Value} (h : w.rowIs b 2 N (fun i : Nat => if i < j then .int .i64 (k + i) else f i)) :
    (w.setCell ⟨b, j, none⟩ (.int .i64 (k + j))).rowIs b 2 N (fun i : Nat => if i < j + 1 then .int .i64 (k + i) else f i) := by
  refine (h.set j _).congr fun i _ => ?_
  by_cases e : i = j
  · subst e; simp
  · by_cases e' : i < j
    · rw [if_neg e, if_pos e', if_pos (by omega)]
    · rw [if_neg e, if_neg e', if_neg (by omega)]
theorem irow_marks {w : World} {b N n cap : Nat} {k : Int} {f : Nat → Value} (h : w.rowIs b 2 N (fun i : Nat => if i < n then .int .i64 (k + i) else f i)) (hN : n ≤ N) (hc : n ≤ cap) :
    IR w (.slice (some ⟨b, 0, none⟩) n cap) (imarks k n) := by
  refine ⟨some ⟨b, 0, none⟩, cap, by rw [imarks_length], by rw [imarks_length]; exact hc, fun i hi => ⟨b, 0, rfl, ?_⟩⟩
  rw [imarks_length] at hi
  rw [imarks_get k n i hi, Nat.zero_add, h.cell (by omega), if_pos hi]



end Go.Proofs.YtjclpbaiiklhcaaGreatDoor

/- The law on Newest, walked. -/
namespace Go.Proofs.YtjclpbaiiklhcaaGreatDoor
open Go.RowKit

theorem newest_len (ss : List ByteArray) (ws : List Disk.Wr) : (newestR ss ws).2.length ≤ 30 := by
  have key : ∀ t, (orNone (superR ss t)).2.length ≤ 30 := fun t => by
    rw [superR_or]
    split
    · exact or_len t
    · simp
  unfold newestR
  split
  · unfold newR
    split
    · exact key _
    · exact key _
  · simp
theorem grown_bel {B : Nat} {w a b : World} {row : Option Nat} (h : Below B w a) (g : a.grownBy b row) (hB : B ≤ a.heap.size) (hr : ∀ k, row = some k → B ≤ k) : Below B w b :=
  h.trans ⟨g.os, g.tape, g.output, g.size, fun k hk => g.block k (by omega) (fun e => by have := hr k e.symm; omega)⟩
theorem B2_grown {w w' : World} {b : Nat} {u v : Value} {row : Option Nat} (h : Disk.B2 w b u v) (g : w.grownBy w' row) (hr : ∀ k, row = some k → b < k) : Disk.B2 w' b u v :=
  ⟨g.cell h.1 (fun e => by have := hr b e.symm; omega), g.cell h.2 (fun e => by have := hr b e.symm; omega)⟩
theorem own_two {w w' : World} {B e size n lo hi : Nat} {v : Value} {xs : List Value} {r1 r2 : Option Nat} (h : w.ownsRow B e size v n xs) (T : Disk.Two w w' r1 r2) (hr1 : ∀ b, r1 = some b → lo ≤ b ∧ b < hi) (hr2 : ∀ b, r2 = some b → lo ≤ b ∧ b < hi) (hd : hi ≤ B) : w'.ownsRow B e size v n xs := by
  obtain ⟨hl, h⟩ := h
  refine ⟨hl, ?_⟩
  rcases h with h | ⟨g, cap, cur, hv, hB, hh, h1, h2, h3, h4⟩
  · exact .inl h
  · refine .inr ⟨g, cap, cur, hv, hB, ?_, h1, h2, h3, h4⟩
    have hlt : g < w.heap.size := by
      rcases Nat.lt_or_ge g w.heap.size with h' | h'
      · exact h'
      · rw [Array.getElem?_eq_none h'] at hh; cases hh
    rw [T.block g hlt (Disk.in_ne hr1 (by omega)) (Disk.in_ne hr2 (by omega))]
    exact hh
theorem IR.two {w w' : World} {v : Value} {l : List Int} {B lo hi : Nat} {r1 r2 : Option Nat} (h : IR w v l) (T : Disk.Two w w' r1 r2) (hr1 : ∀ b, r1 = some b → lo ≤ b ∧ b < hi) (hr2 : ∀ b, r2 = some b → lo ≤ b ∧ b < hi) (hB : ∀ a n c, v = .slice (some a) n c → 0 < n → a.block < B) (hd : B ≤ lo) : IR w' v l := by
  obtain ⟨ao, cap, rfl, hle, h⟩ := h
  refine ⟨ao, cap, rfl, hle, fun i hi => ?_⟩
  obtain ⟨b, o, rfl, hc⟩ := h i hi
  have := hB _ _ _ rfl (by omega)
  simp at this
  exact ⟨b, o, rfl, T.cell hc (Disk.in_ne hr1 (.inl (by omega))) (Disk.in_ne hr2 (.inl (by omega)))⟩


end Go.Proofs.YtjclpbaiiklhcaaGreatDoor
