import Derived.Test.YtjclpbaiiklhcaaGreatDoorZDBase
import Derived.Test.YtjclpbaiiklhcaaGreatDoorZV10
import Derived.Test.YtjclpbaiiklhcaaGreatDoorZV2
import Derived.Test.YtjclpbaiiklhcaaGreatDoorZV14
/- Disks in memory of their own, side by side: what is written into one leaves the others. -/
namespace Go.Proofs.YtjclpbaiiklhcaaGreatDoor.Disk
open Go.RowKit

/-- A disk whose rows lie in blocks from lo on and below hi. -/
structure DK (lo hi : Nat) (w : World) (v1 v2 : Value) (ss : List ByteArray) (ws : List Wr) : Prop where
  os1 : OS w 9 1 v1 ss.length
  os2 : OS w 48 2 v2 ws.length
  sr : SR w v1 ss
  wr : WR w v2 ws
  r1 : ∀ b, rowOf v1 ss.length = some b → lo ≤ b ∧ b < hi
  r2 : ∀ b, rowOf v2 ws.length = some b → lo ≤ b ∧ b < hi

theorem DK.of {lo : Nat} {w : World} {v1 v2 : Value} {ss : List ByteArray} {ws : List Wr} (h : ND lo w v1 v2 ss ws) : DK lo w.heap.size w v1 v2 ss ws :=
  ⟨h.1, h.2.1, h.2.2.1, h.2.2.2.1, fun b e => ⟨h.2.2.2.2.1 b e, h.1.row b e⟩, fun b e => ⟨h.2.2.2.2.2 b e, h.2.1.row b e⟩⟩

theorem DK.later {lo hi : Nat} {w w' : World} {v1 v2 : Value} {ss : List ByteArray} {ws : List Wr} (h : DK lo hi w v1 v2 ss ws) (hb : Below w.heap.size w w') : DK lo hi w' v1 v2 ss ws :=
  ⟨h.os1.later hb, h.os2.later hb, h.sr.later hb, h.wr.later hb, h.r1, h.r2⟩

theorem DK.al {lo hi : Nat} {w : World} {v1 v2 : Value} {ss : List ByteArray} {ws : List Wr} (h : DK lo hi w v1 v2 ss ws) (o : Obj) : DK lo hi (w.alloc o) v1 v2 ss ws := h.later (bel_one w o)

theorem DK.dr {lo hi : Nat} {w : World} {v1 v2 : Value} {ss : List ByteArray} {ws : List Wr} (h : DK lo hi w v1 v2 ss ws) (n : Nat) : DK lo hi (w.drewN n) v1 v2 ss ws := h.later (below_drewN (Below.refl _ _) n)

theorem DK.s1 {lo hi : Nat} {w : World} {v1 v2 : Value} {ss : List ByteArray} {ws : List Wr} (h : DK lo hi w v1 v2 ss ws) : ∃ ao n cap, v1 = .slice ao n cap := by
  obtain ⟨ao, cap, e, _⟩ := h.os1
  exact ⟨ao, _, cap, e⟩

theorem DK.s2 {lo hi : Nat} {w : World} {v1 v2 : Value} {ss : List ByteArray} {ws : List Wr} (h : DK lo hi w v1 v2 ss ws) : ∃ ao n cap, v2 = .slice ao n cap := by
  obtain ⟨ao, cap, e, _⟩ := h.os2
  exact ⟨ao, _, cap, e⟩

theorem DK.dr' {lo hi : Nat} {w : World} {v1 v2 : Value} {ss : List ByteArray} {ws : List Wr} (h : DK lo hi w v1 v2 ss ws) (h1 : ss.length ≤ 1000000000000000) (h2 : ws.length ≤ 1000000000000000) : DR w (.agg #[v1, v2]) ss ws :=
  ⟨v1, v2, rfl, h.sr, h.wr, h1, h2⟩

theorem OS.two {w w' : World} {t size : Nat} {v : Value} {n : Nat} {r1 r2 : Option Nat} (h : OS w t size v n) (T : Two w w' r1 r2) (h1 : ∀ b, rowOf v n = some b → some b ≠ r1 ∧ some b ≠ r2) : OS w' t size v n := by
  obtain ⟨ao, cap, rfl, h⟩ := h
  refine ⟨ao, cap, rfl, ?_⟩
  by_cases hn : n = 0
  · exact .inl hn
  · obtain ⟨b, N, f, rfl, hN, hr⟩ := h.resolve_left hn
    obtain ⟨e1, e2⟩ := h1 b (by rw [rowOf, if_neg hn]; rfl)
    exact .inr ⟨b, N, f, rfl, hN, hr.of_block (T.block b hr.lt e1 e2)⟩

theorem SR.two {w w' : World} {v : Value} {ss : List ByteArray} {r1 r2 : Option Nat} (h : SR w v ss) (T : Two w w' r1 r2) (h1 : ∀ b, rowOf v ss.length = some b → some b ≠ r1 ∧ some b ≠ r2) : SR w' v ss := by
  obtain ⟨ao, cap, rfl, h⟩ := h
  refine ⟨ao, cap, rfl, fun i hi => ?_⟩
  obtain ⟨b, o, rfl, hc⟩ := h i hi
  obtain ⟨e1, e2⟩ := h1 b (by rw [rowOf, if_neg (by omega)]; rfl)
  exact ⟨b, o, rfl, T.cell hc e1 e2⟩

theorem WR.two {w w' : World} {v : Value} {ws : List Wr} {r1 r2 : Option Nat} (h : WR w v ws) (T : Two w w' r1 r2) (h1 : ∀ b, rowOf v ws.length = some b → some b ≠ r1 ∧ some b ≠ r2) : WR w' v ws := by
  obtain ⟨ao, cap, rfl, h⟩ := h
  refine ⟨ao, cap, rfl, fun i hi => ?_⟩
  obtain ⟨b, o, rfl, hc, hd⟩ := h i hi
  obtain ⟨e1, e2⟩ := h1 b (by rw [rowOf, if_neg (by omega)]; rfl)
  exact ⟨b, o, rfl, T.cell hc e1 e2, T.cell hd e1 e2⟩

theorem in_ne {r : Option Nat} {lo hi b : Nat} (h : ∀ c, r = some c → lo ≤ c ∧ c < hi) (hb : b < lo ∨ hi ≤ b) : some b ≠ r := fun e => by
  have := h b e.symm
  omega

/-- The marks of one disk leave another one. -/
theorem DK.two {lo hi lo' hi' : Nat} {w w' : World} {v1 v2 : Value} {ss : List ByteArray} {ws : List Wr} {r1 r2 : Option Nat} (h : DK lo hi w v1 v2 ss ws) (T : Two w w' r1 r2) (hr1 : ∀ b, r1 = some b → lo' ≤ b ∧ b < hi') (hr2 : ∀ b, r2 = some b → lo' ≤ b ∧ b < hi') (hd : hi ≤ lo' ∨ hi' ≤ lo) : DK lo hi w' v1 v2 ss ws := by
  have key : ∀ b, lo ≤ b ∧ b < hi → some b ≠ r1 ∧ some b ≠ r2 := fun b hb => ⟨in_ne hr1 (by omega), in_ne hr2 (by omega)⟩
  exact ⟨h.os1.two T (fun b e => key b (h.r1 b e)), h.os2.two T (fun b e => key b (h.r2 b e)), h.sr.two T (fun b e => key b (h.r1 b e)), h.wr.two T (fun b e => key b (h.r2 b e)), h.r1, h.r2⟩

/-- A box of a disk's value. -/
def B2 (w : World) (b : Nat) (u v : Value) : Prop := w.cell? ⟨b, 0, none⟩ = some u ∧ w.cell? ⟨b, 1, none⟩ = some v
theorem B2.later {w w' : World} {b : Nat} {u v : Value} (h : B2 w b u v) (hb : Below w.heap.size w w') : B2 w' b u v := ⟨cell_later hb h.1, cell_later hb h.2⟩
theorem B2.al {w : World} {b : Nat} {u v : Value} (h : B2 w b u v) (o : Obj) : B2 (w.alloc o) b u v := h.later (bel_one w o)
theorem B2.new (w : World) (t : Nat) (u v : Value) : B2 (w.alloc (.cells #[u, v] t)) w.heap.size u v := ⟨cell_new w #[u, v] t _ rfl 0 _ rfl, cell_new w #[u, v] t _ rfl 1 _ rfl⟩
theorem B2.lt {w : World} {b : Nat} {u v : Value} (h : B2 w b u v) : b < w.heap.size := World.block_lt_of_cell? _ _ h.1
theorem B2.two {lo' hi' : Nat} {w w' : World} {b : Nat} {u v : Value} {r1 r2 : Option Nat} (h : B2 w b u v) (T : Two w w' r1 r2) (hr1 : ∀ b, r1 = some b → lo' ≤ b ∧ b < hi') (hr2 : ∀ b, r2 = some b → lo' ≤ b ∧ b < hi') (hd : b < lo' ∨ hi' ≤ b) : B2 w' b u v :=
  ⟨T.cell h.1 (in_ne hr1 hd) (in_ne hr2 hd), T.cell h.2 (in_ne hr1 hd) (in_ne hr2 hd)⟩

end Go.Proofs.YtjclpbaiiklhcaaGreatDoor.Disk

/- markInt64S, heldInt64S: marks laid in a row of numbers are held. -/
namespace Go.Proofs.YtjclpbaiiklhcaaGreatDoor
open Go.RowKit

def imarks (k : Int) (n : Nat) : List Int := (List.range n).map fun i : Nat => k + i
theorem imarks_length (k : Int) (n : Nat) : (imarks k n).length = n := by simp [imarks]
theorem imarks_get (k : Int) (n i : Nat) (h : i < n) : (imarks k n).getD i 0 = k + i := by simp [imarks, h]

theorem OS_of_owns {w : World} {B e n : Nat} {v : Value} {xs : List Value} (h : w.ownsRow B e 1 v n xs) : Disk.OS w e 1 v n := by
  obtain ⟨hl, h⟩ := h
  rcases h with ⟨rfl, rfl⟩ | ⟨g, cap, cur, rfl, hB, hh, h1, h2, h3, h4⟩
  · exact ⟨none, 0, rfl, .inl rfl⟩
  · exact ⟨_, cap, rfl, .inr ⟨g, cur.size, fun i => cur[i]?.getD undef, rfl, by omega, cur, hh, rfl, fun i hi => by simp [hi]⟩⟩
theorem row_of_owns {w : World} {B e n : Nat} {v : Value} {xs : List Value} (h : w.ownsRow B e 1 v n xs) : ∀ b, Disk.rowOf v n = some b → B ≤ b := by
  intro b hb
  obtain ⟨hl, h⟩ := h
  rcases h with ⟨rfl, rfl⟩ | ⟨g, cap, cur, rfl, hB, hh, h1, h2, h3, h4⟩
  · simp [Disk.rowOf] at hb
  · unfold Disk.rowOf at hb
    split at hb
    · cases hb
    · simp [Value.ownBlock] at hb
      omega

theorem IR.grown {w w' : World} {v : Value} {l : List Int} {row : Option Nat} (h : IR w v l) (hg : w.grownBy w' row) (hne : l = [] ∨ v.ownBlock ≠ row) : IR w' v l := by
  obtain ⟨ao, cap, rfl, hle, h⟩ := h
  refine ⟨ao, cap, rfl, hle, fun i hi => ?_⟩
  obtain ⟨b, o, rfl, hc⟩ := h i hi
  rcases hne with rfl | hne
  · simp at hi
  · exact ⟨b, o, rfl, hg.cell hc hne⟩
theorem IR.low {w w' : World} {v : Value} {l : List Int} {row : Option Nat} {B : Nat} (h : IR w v l) (hg : w.grownBy w' row) (hB : ∀ a n c, v = .slice (some a) n c → 0 < n → a.block < B) (hr : ∀ b, row = some b → B ≤ b) : IR w' v l := by
  by_cases hl : l = []
  · exact h.grown hg (.inl hl)
  · obtain ⟨ao, cap, rfl, hle, h'⟩ := id h
    have hp : 0 < l.length := by cases l with | nil => exact absurd rfl hl | cons _ _ => simp
    obtain ⟨b, o, rfl, hc⟩ := h' 0 hp
    refine h.grown hg (.inr fun e => ?_)
    have h1 := hB _ _ _ rfl hp
    have h2 := hr b e.symm
    simp at h1
    omega
theorem IR.lt {w : World} {v : Value} {l : List Int} (h : IR w v l) : ∀ a n c, v = .slice (some a) n c → 0 < n → a.block < w.heap.size := by
  obtain ⟨ao, cap, rfl, hle, h⟩ := h
  intro a n c e hp
  simp only [Value.slice.injEq] at e
  obtain ⟨rfl, rfl, _⟩ := e
  obtain ⟨b, o, e2, hc⟩ := h 0 hp
  simp only [Option.some.injEq] at e2
  subst e2
  exact World.block_lt_of_cell? _ _ hc

theorem irow_mark {w : World} {b N j : Nat} {k : Int} {f : Nat → Value} (h : w.rowIs b 2 N (fun i : Nat => if i < j then .int .i64 (k + i) else f i)) :
    (w.setCell ⟨b, j, none⟩ (.int .i64 (k + j))).rowIs b 2 N (fun i : Nat => if i < j + 1 then .int .i64 (k + i) else f i) := by
  refine (h.set j _).congr fun i _ => ?_
  by_cases e : i = j
  · subst e; simp
  · by_cases e' : i < j
    · rw [if_neg e, if_pos e', if_pos (by omega)]
    · rw [if_neg e, if_neg e', if_neg (by omega)]
theorem irow_marks {w : World} {b N n cap : Nat} {k : Int} {f : Nat → Value} (h : w.rowIs b 2 N (fun i : Nat => if i < n then .int .i64 (k + i) else f i)) (hN : n ≤ N) (hc : n ≤ cap) :
    IR w (.slice (some ⟨b, 0, none⟩) n cap) (imarks k n) := by
  refine ⟨some ⟨b, 0, none⟩, cap, by rw [imarks_length], by rw [imarks_length]; exact hc, fun i hi => ⟨b, 0, rfl, ?_⟩⟩
  rw [imarks_length] at hi
  rw [imarks_get k n i hi, Nat.zero_add, h.cell (by omega), if_pos hi]



end Go.Proofs.YtjclpbaiiklhcaaGreatDoor

/- The law on Newest, walked. -/
namespace Go.Proofs.YtjclpbaiiklhcaaGreatDoor
open Go.RowKit

theorem newest_len (ss : List ByteArray) (ws : List Disk.Wr) : (newestR ss ws).2.length ≤ 30 := by
  have key : ∀ t, (orNone (superR ss t)).2.length ≤ 30 := fun t => by
    rw [superR_or]
    split
    · exact or_len t
    · simp
  unfold newestR
  split
  · unfold newR
    split
    · exact key _
    · exact key _
  · simp
theorem grown_bel {B : Nat} {w a b : World} {row : Option Nat} (h : Below B w a) (g : a.grownBy b row) (hB : B ≤ a.heap.size) (hr : ∀ k, row = some k → B ≤ k) : Below B w b :=
  h.trans ⟨g.os, g.tape, g.output, g.size, fun k hk => g.block k (by omega) (fun e => by have := hr k e.symm; omega)⟩
theorem B2_grown {w w' : World} {b : Nat} {u v : Value} {row : Option Nat} (h : Disk.B2 w b u v) (g : w.grownBy w' row) (hr : ∀ k, row = some k → b < k) : Disk.B2 w' b u v :=
  ⟨g.cell h.1 (fun e => by have := hr b e.symm; omega), g.cell h.2 (fun e => by have := hr b e.symm; omega)⟩
theorem own_two {w w' : World} {B e size n lo hi : Nat} {v : Value} {xs : List Value} {r1 r2 : Option Nat} (h : w.ownsRow B e size v n xs) (T : Disk.Two w w' r1 r2) (hr1 : ∀ b, r1 = some b → lo ≤ b ∧ b < hi) (hr2 : ∀ b, r2 = some b → lo ≤ b ∧ b < hi) (hd : hi ≤ B) : w'.ownsRow B e size v n xs := by
  obtain ⟨hl, h⟩ := h
  refine ⟨hl, ?_⟩
  rcases h with h | ⟨g, cap, cur, hv, hB, hh, h1, h2, h3, h4⟩
  · exact .inl h
  · refine .inr ⟨g, cap, cur, hv, hB, ?_, h1, h2, h3, h4⟩
    have hlt : g < w.heap.size := by
      rcases Nat.lt_or_ge g w.heap.size with h' | h'
      · exact h'
      · rw [Array.getElem?_eq_none h'] at hh; cases hh
    rw [T.block g hlt (Disk.in_ne hr1 (by omega)) (Disk.in_ne hr2 (by omega))]
    exact hh
theorem IR.two {w w' : World} {v : Value} {l : List Int} {B lo hi : Nat} {r1 r2 : Option Nat} (h : IR w v l) (T : Disk.Two w w' r1 r2) (hr1 : ∀ b, r1 = some b → lo ≤ b ∧ b < hi) (hr2 : ∀ b, r2 = some b → lo ≤ b ∧ b < hi) (hB : ∀ a n c, v = .slice (some a) n c → 0 < n → a.block < B) (hd : B ≤ lo) : IR w' v l := by
  obtain ⟨ao, cap, rfl, hle, h⟩ := h
  refine ⟨ao, cap, rfl, hle, fun i hi => ?_⟩
  obtain ⟨b, o, rfl, hc⟩ := h i hi
  have := hB _ _ _ rfl (by omega)
  simp at this
  exact ⟨b, o, rfl, T.cell hc (Disk.in_ne hr1 (.inl (by omega))) (Disk.in_ne hr2 (.inl (by omega)))⟩


end Go.Proofs.YtjclpbaiiklhcaaGreatDoor

/- Pages of the model. -/
namespace Go.Proofs.YtjclpbaiiklhcaaGreatDoor
open Go.RowKit

def pagesR (ss : List ByteArray) (ws : List Disk.Wr) : List ByteArray := bodiesK ss (newestR ss ws).2 (newestR ss ws).2.length
theorem newest_mem (ss : List ByteArray) (ws : List Disk.Wr) : ∀ i, i < (newestR ss ws).2.length → 2 ≤ (newestR ss ws).2.getD i 0 ∧ (newestR ss ws).2.getD i 0 ≤ 63 := by
  have key : ∀ t i, i < (orNone (superR ss t)).2.length → 2 ≤ (orNone (superR ss t)).2.getD i 0 ∧ (orNone (superR ss t)).2.getD i 0 ≤ 63 := fun t => by
    rw [superR_or]
    split
    · exact or_mem t
    · intro i hi; simp at hi
  unfold newestR
  split
  · unfold newR
    split
    · exact key _
    · exact key _
  · intro i hi; simp at hi
theorem pagesR_length (ss : List ByteArray) (ws : List Disk.Wr) : (pagesR ss ws).length = (newestR ss ws).2.length := bodiesK_length ..

set_option maxRecDepth 100000 in
set_option maxHeartbeats 6400000 in
theorem l3Pages_any (v1 v2 v : Value) (ss : List ByteArray) (l : List Int) (w : World) (hv : Ss w v1 ss) (hir : IR w v l) (hl : l.length ≤ 30) (OM : ∀ i, i < l.length → 2 ≤ l.getD i 0 ∧ l.getD i 0 ≤ 63) :
    Calls Tryz.prog 44 #[.agg #[v1, v2], v] w fun x w' => (∃ u, x = .returned u ∧ w'.ownsRow w.heap.size 9 1 u l.length (tcells (bodiesK ss l l.length))) ∧ Below w.heap.size w w' := by
  have hb0 := bel_after (bel_one w (.cells #[v1, v2] 27)) (bel_one _ (.cells #[] 9))
  have own0 := own_none (w.alloc (.cells #[v1, v2] 27)) (w.heap.size + 1) 9 1 (by simp)
  obtain ⟨ao, cap, rfl, hcap, hir⟩ := hir
  obtain ⟨⟨so, scp, hsv, hsr⟩, hlen, hfit⟩ := hv
  rw [hlen] at hsv hsr
  subst hsv
  generalize hW0 : (w.alloc (.cells #[.slice so 64 scp, v2] 27)).alloc (.cells #[] 9) = W0 at *
  have hsz0 : W0.heap.size = w.heap.size + 1 + 1 := by rw [← hW0]; simp
  have p0 : W0.cell? ⟨w.heap.size, 0, none⟩ = some (.slice so 64 scp) := by rw [← hW0]; exact cell_later (bel_one _ _) (by simp)
  have HW0 : Hid ((w.alloc (.cells #[.slice so 64 scp, v2] 27)).alloc (.cells #[] 9) = W0) := hW0
  clear hlen hW0
  go_enter Tryz.func44, Tryz.ntmps44
  go_wp2
  rw [HW0.out]
  clear HW0
  simp only [World.size_alloc] at own0
  go_loopw [5, 6] (fun bv iv wr => ∃ (k : Nat) (v0 : Value), k ≤ l.length ∧ iv = .int .i64 k ∧ v0 = bv ∧ wr.ownsRow (w.heap.size + 1) 9 1 v0 k (tcells (bodiesK ss l k)) ∧ Below (w.heap.size + 1) W0 wr) (fun _ iv _ => l.length - (intOf iv).toNat)
  case atStart => exact ⟨0, _, Nat.zero_le _, rfl, rfl, own0, Below.refl _ _⟩
  case round =>
    obtain ⟨k, bv, hk, rfl, rfl, hown, hb⟩ := hrel
    by_cases hlt : k < l.length
    · obtain ⟨b, o, rfl, hc0⟩ := hir k hlt
      obtain ⟨y0, y1⟩ := OM k hlt
      obtain ⟨n, hn⟩ := Int.eq_ofNat_of_zero_le (a := l.getD k 0) (by omega)
      obtain ⟨b2, o2, rfl, hc1⟩ := hsr n (by omega)
      have hfn := hfit n (by omega)
      have HR : Hid (pageAt ss l k = openR (textAt ss n)) := (by unfold pageAt textAt; rw [hn, Int.toNat_natCast] : pageAt ss l k = openR (textAt ss n))
      rw [hn] at hc0 y0 y1
      have hbwr : Below w.heap.size w wr := hb0.trans (hb.mono (by omega))
      have d0 : wr.cell? ⟨w.heap.size, 0, none⟩ = some (.slice (some ⟨b2, o2, none⟩) 64 scp) := (hb.cell (p := ⟨w.heap.size, 0, none⟩) (by simp)).trans p0
      have d1 := cell_later hbwr hc0
      have d2 := cell_later hbwr hc1
      change wr.cell? _ = some (.string (textAt ss n)) at d2
      have OP := fun w => specOpen_any (textAt ss n) w (by omega)
      have BS := bodiesK_succ ss l k
      rw [HR.out] at BS
      generalize textAt ss n = tx at *
      generalize openR tx = r at *
      obtain ⟨r1, r2, r3, r4⟩ := r
      unfold openV at OP
      simp only at OP BS
      have HB : Hid (tcells (bodiesK ss l (k + 1)) = tcells (bodiesK ss l k) ++ [.string r3]) := (by rw [BS]; simp [tcells] : tcells (bodiesK ss l (k + 1)) = tcells (bodiesK ss l k) ++ [.string r3])
      have hn64 : (n : Int) < 64 := by omega
      have hn0 : (0 : Int) ≤ (n : Int) := by omega
      have hszr : w.heap.size + 1 + 1 ≤ wr.heap.size := by have := hb.size; omega
      clear hc0 hc1 hn HR hir hsr OM BS p0 own0
      go_wp2_with fail
      go_region_held3 (fun w' => Below wr.heap.size wr w' ∧ w'.cell? ⟨w.heap.size, 0, none⟩ = some (.slice (some ⟨b2, o2, none⟩) 64 scp) ∧ w'.cell? ⟨b, o + k, none⟩ = some (.int .i64 n) ∧ w'.cell? ⟨b2, o2 + n, none⟩ = some (.string tx))
        (first | assumption | (refine ⟨(Below.refl _ _).drew, ?_, ?_, ?_⟩ <;> simp [d0, d1, d2]) | (exact keep3 (by assumption) (by assumption)))
        (first
          | (go_at_call 68; refine (OP _).mono ?_; rintro x w3 ⟨rfl, hb3⟩))
      all_goals
        rename_i hHeld
        have hb3' : Below wr.heap.size wr w3 := And.left hHeld
        have hown3 := own_later hown hb3'
        have hb2 : Below (w.heap.size + 1) W0 w3 := hb.trans (hb3'.mono (by omega))
        have hc : ∀ W : World, (W.alloc (.cells #[.string r3] 9)).cell? ⟨W.heap.size, 0, none⟩ = some (.string r3) := fun W => by simp
        have hown4 := own_later hown3 (bel_one w3 (.cells #[.string r3] 9))
        have hsz3 : w.heap.size + 1 + 1 ≤ w3.heap.size := Nat.le_trans hszr hb3'.size
        have hb4 : Below (w.heap.size + 1) W0 (w3.alloc (.cells #[.string r3] 9)) := hb2.alloc (by omega) _
        clear OP d0 d1 d2 hHeld hown
        go_wp2_with (at_builtin; refine app_text _ rfl _ _ rfl (w.heap.size + 1) _ k _ rfl hown4 _ 1 r3 rfl (hc _) (by omega) (by simp; omega) ?_; intro v5 w5 hown5 hg5; have hb5 := own_grown hb4 hown4 hg5 (by simp; omega))
        exact ⟨⟨k + 1, _, by omega, by go_num, rfl, by rw [HB.out]; exact hown5, hb5⟩, by simp [intOf]; omega⟩
    · obtain rfl : k = l.length := by omega
      go_wp2
      exact bodyPost_ret (v := bv) (by simp [results, Tryz.results44, go_sem]) rfl ⟨⟨_, rfl, own_mono hown (by omega)⟩, hb0.trans (hb.mono (by omega))⟩

set_option maxRecDepth 100000 in
set_option maxHeartbeats 1000000 in
theorem specPages_any (v1 v2 : Value) (ss : List ByteArray) (ws : List Disk.Wr) (w : World) (hv1 : Disk.SR w v1 ss) (hv2 : Disk.WR w v2 ws) (h1 : ss.length ≤ 10000000000000) (h2 : ws.length ≤ 10000000000000) :
    Calls Tryz.prog 20 #[.agg #[v1, v2]] w fun x w' => (∃ v, x = .returned (.tuple #[v, .int .i64 (newestR ss ws).1]) ∧ w'.ownsRow w.heap.size 9 1 v (pagesR ss ws).length (tcells (pagesR ss ws))) ∧ Below w.heap.size w w' := by
  have hb0 := bel_one w (.cells #[v1, v2] 27)
  have OK := Disk.specDiskOk_any v1 v2 ss ws _ (hv1.later hb0) (hv2.later hb0) h1 h2
  have OM := newest_mem ss ws
  have OL := newest_len ss ws
  rw [pagesR_length]
  unfold pagesR
  go_enter Tryz.func20, Tryz.ntmps20
  go_wp2_with fail
  refine OK.mono ?_
  rintro x w1 ⟨rfl, hb1⟩
  have hbw := bel_after hb0 hb1
  have d0 : w1.cell? ⟨w.heap.size, 0, none⟩ = some v1 := cell_later hb1 (by simp)
  have d1 : w1.cell? ⟨w.heap.size, 1, none⟩ = some v2 := cell_later hb1 (by simp)
  have hs1 := hv1.later hbw
  have hs2 := hv2.later hbw
  clear OK
  cases hok : Disk.okD ss ws
  · have G : Hid (newestR ss ws = (0, [])) := newestR_no hok
    clear hok OM OL
    go_wp2
    exact bodyPost_ret (v := .tuple #[.slice (some ⟨w1.heap.size, 0, none⟩) 0 0, .int .i64 0]) (by simp [results, Tryz.results20, go_sem]) rfl ⟨⟨_, by rw [G.out], by rw [G.out]; exact own_none w1 _ 9 1 hbw.size⟩, bel_after hbw (bel_one _ _)⟩
  · have hS := ss_of hs1 hok
    have N1 := l3Newest_any v1 v2 ss w1 hS
    rw [← newestR_yes hok] at N1
    clear hok
    obtain ⟨⟨ne, nl⟩, hnw⟩ : ∃ nw, newestR ss ws = nw := ⟨_, rfl⟩
    rw [hnw] at N1 OM OL
    have HNW : Hid (newestR ss ws = (ne, nl)) := hnw
    clear hnw
    simp only at N1 OM OL
    go_wp2_with fail
    refine N1.mono ?_
    rintro x w2 ⟨⟨v, rfl, hr⟩, hb2⟩
    have hbw2 := bel_after hbw hb2
    have e0 := cell_later hb2 d0
    have e1 := cell_later hb2 d1
    have P := l3Pages_any v1 v2 v ss nl w2 (hS.later hb2) hr OL OM
    clear N1 OM OL d0 d1
    go_wp2_with (go_at_call 44; refine P.mono ?_; rintro x w3 ⟨⟨u, rfl, hu⟩, hb3⟩)
    exact bodyPost_ret (v := .tuple #[u, .int .i64 ne]) (by simp [results, Tryz.results20, go_sem]) rfl ⟨⟨_, by rw [HNW.out], by rw [HNW.out]; exact own_mono hu hbw2.size⟩, bel_after hbw2 hb3⟩

end Go.Proofs.YtjclpbaiiklhcaaGreatDoor
