/- Plain facts on lists, numbers and worlds that the walks of this seat use; nothing of the program. -/
import Derived.WalkKit
import Derived.WalkSpells
import Derived.WalkLawsBesides
import Derived.Deep.OwnRows
import Derived.Test.YtjclpbaiiklhcaaGreatDoorRows
import Derived.Deep.RegionWith
import Derived.RangeFuncNested
import Derived.RangeFuncBound
import Derived.RangeFuncCalls
import Derived.RangeFuncLeaves
import Derived.Shelf.Abstract
import Derived.OwnWalkIn
import Derived.TacticsInMore
import Derived.LoopNIn
import Derived.LoopIn
import Derived.ProofKit
import Derived.OpenShut
import Derived.SizedLaws
import Derived.Lib.SmallJoins
import Derived.Deep.Strs
import Derived.Deep.SlicePairs
namespace Go.Proofs.YtjclpbaiiklhcaaGreatDoor.Disk
open Go.RowKit

theorem ret_str {a b : ByteArray} (h : a = b) : Ending.returned (.string a) = .returned (.string b) := by rw [h]
theorem ret_int {k : IntKind} {a b : Int} (h : a = b) : Ending.returned (.int k a) = .returned (.int k b) := by rw [h]
theorem ret_bool {a b : Bool} (h : a = b) : Ending.returned (.bool a) = .returned (.bool b) := by rw [h]

def digs : Nat → Nat → List UInt8 → List UInt8
  | 0, _, acc => acc
  | f + 1, n, acc => if n = 0 then acc else digs f (n / 10) ((48 + UInt8.ofNat (n % 10)) :: acc)

def mtext (k : Int) : ByteArray := if k ≤ 0 then ⟨#[109, 48]⟩ else ⟨(109 :: digs k.toNat k.toNat []).toArray⟩

theorem digs_zero (f : Nat) (acc : List UInt8) : digs f 0 acc = acc := by
  cases f <;> simp [digs]

theorem digs_step (f n : Nat) (s : ByteArray) (hn : 0 < n) (hf : n ≤ f) :
    digs (f - 1) (n / 10) (({ data := #[48 + UInt8.ofNat (n % 10)] } ++ s : ByteArray).data.toList) = digs f n s.data.toList := by
  obtain ⟨g, rfl⟩ : ∃ g, f = g + 1 := ⟨f - 1, by omega⟩
  rw [digs, if_neg (by omega), Nat.add_sub_cancel]
  simp

theorem digs_end (k : Int) (f n : Nat) (s : ByteArray) (hk : 0 < k) (hn : ¬ 0 < n) (hd : digs f n s.data.toList = digs k.toNat k.toNat []) : ({ data := #[109] } ++ s : ByteArray) = mtext k := by
  obtain rfl : n = 0 := by omega
  rw [digs_zero] at hd
  unfold mtext
  rw [if_neg (by omega), ← hd]
  apply ByteArray.ext
  simp

theorem str_ne {s t : ByteArray} (h : (!s.toList == t.toList) = true) : s ≠ t := by
  rintro rfl
  simp at h

theorem str_eq {s t : ByteArray} (h : (!s.toList == t.toList) = false) : s = t := by
  simp at h
  rw [ByteArray.toList_eq, ByteArray.toList_eq] at h
  exact ByteArray.ext (Array.toList_inj.1 h)

/-- All cells and marks that were there before read as before: two rules for the walk. -/
theorem bcell {W w1 : World} (hb : Below W.heap.size W w1) : (∀ b o, b < W.heap.size → w1.cell? ⟨b, o, none⟩ = W.cell? ⟨b, o, none⟩) ∧ (∀ b o, b < W.heap.size → w1.frozen? ⟨b, o, none⟩ = W.frozen? ⟨b, o, none⟩) :=
  ⟨fun b o h => hb.cell (p := ⟨b, o, none⟩) h, fun b o h => hb.frozen (p := ⟨b, o, none⟩) h⟩

theorem bel_two (w : World) (o1 o2 : Obj) : Below w.heap.size w ((w.alloc o1).alloc o2) := ((Below.refl _ _).alloc (Nat.le_refl _) _).alloc (by simp) _

theorem bel_then {B : Nat} {w a b : World} (h : Below B w a) (hB : B ≤ a.heap.size) (k : Below a.heap.size a b) : Below B w b := h.trans (k.mono hB)

/-- The texts that a slice reads as. -/
def SR (w : World) (v : Value) (ss : List ByteArray) : Prop :=
  ∃ ao cap, v = .slice ao ss.length cap ∧ ∀ i, i < ss.length → ∃ b o, ao = some ⟨b, o, none⟩ ∧ w.cell? ⟨b, o + i, none⟩ = some (.string (ss.getD i ByteArray.empty))

abbrev Wr := Int × ByteArray
def wr0 : Wr := (0, ByteArray.empty)

/-- The writes that a slice reads as. -/
def WR (w : World) (v : Value) (ws : List Wr) : Prop :=
  ∃ ao cap, v = .slice ao ws.length cap ∧ ∀ i, i < ws.length → ∃ b o, ao = some ⟨b, o, none⟩ ∧ w.cell? ⟨b, o + i * 2, none⟩ = some (.int .i64 (ws.getD i wr0).1) ∧ w.cell? ⟨b, o + i * 2 + 1, none⟩ = some (.string (ws.getD i wr0).2)

theorem SR.later {w w' : World} {v : Value} {ss : List ByteArray} (h : SR w v ss) (hb : Below w.heap.size w w') : SR w' v ss := by
  obtain ⟨ao, cap, rfl, h⟩ := h
  exact ⟨ao, cap, rfl, fun i hi => by obtain ⟨b, o, e, hc⟩ := h i hi; exact ⟨b, o, e, cell_later hb hc⟩⟩

theorem WR.later {w w' : World} {v : Value} {ws : List Wr} (h : WR w v ws) (hb : Below w.heap.size w w') : WR w' v ws := by
  obtain ⟨ao, cap, rfl, h⟩ := h
  exact ⟨ao, cap, rfl, fun i hi => by obtain ⟨b, o, e, hc, hd⟩ := h i hi; exact ⟨b, o, e, cell_later hb hc, cell_later hb hd⟩⟩

theorem lists_eq {ss tt : List ByteArray} (hl : ss.length = tt.length) (h : ∀ j, j < ss.length → ss.getD j ByteArray.empty = tt.getD j ByteArray.empty) : ss = tt := by
  refine List.ext_getElem hl fun i h1 h2 => ?_
  have := h i h1
  simpa [List.getD_eq_getElem?_getD, h1, h2] using this

theorem wlists_eq {ss tt : List Wr} (hl : ss.length = tt.length) (h : ∀ j, j < ss.length → ss.getD j wr0 = tt.getD j wr0) : ss = tt := by
  refine List.ext_getElem hl fun i h1 h2 => ?_
  have := h i h1
  simpa [List.getD_eq_getElem?_getD, h1, h2] using this

theorem all_upto {p : Nat → Prop} {k : Nat} (h : ∀ j, j < k → p j) (hk : p k) : ∀ j, j < k + 1 → p j := fun j hj => by
  by_cases e : j = k
  · subst e; exact hk
  · exact h j (by omega)

theorem grown_trans {a w w' : World} {row : Option Nat} (h : a.grownBy w row) (k : w.grownBy w' row) : a.grownBy w' row :=
  ⟨k.os.trans h.os, k.tape.trans h.tape, k.output.trans h.output, Nat.le_trans h.size k.size, fun i hi hr => (k.block i (Nat.lt_of_lt_of_le hi h.size) hr).trans (h.block i hi hr)⟩

theorem grown_below {w w' : World} {row : Option Nat} (h : Below w.heap.size w w') : w.grownBy w' row :=
  ⟨h.os, h.tape, h.output, h.size, fun k hk _ => h.block k hk⟩

theorem grown_set (w : World) (b i : Nat) (v : Value) : w.grownBy (w.setCell ⟨b, i, none⟩ v) (some b) :=
  ⟨rfl, rfl, rfl, by simp [World.setCell], fun k _ hr => Below.heap_setCell _ _ _ _ (fun e => hr (by rw [e]))⟩

theorem SR.grown {w w' : World} {v : Value} {ss : List ByteArray} {row : Option Nat} (h : SR w v ss) (hg : w.grownBy w' row) (hne : ss = [] ∨ v.ownBlock ≠ row) : SR w' v ss := by
  obtain ⟨ao, cap, rfl, h⟩ := h
  refine ⟨ao, cap, rfl, fun i hi => ?_⟩
  obtain ⟨b, o, rfl, hc⟩ := h i hi
  rcases hne with rfl | hne
  · simp at hi
  · exact ⟨b, o, rfl, hg.cell hc hne⟩

theorem WR.grown {w w' : World} {v : Value} {ws : List Wr} {row : Option Nat} (h : WR w v ws) (hg : w.grownBy w' row) (hne : ws = [] ∨ v.ownBlock ≠ row) : WR w' v ws := by
  obtain ⟨ao, cap, rfl, h⟩ := h
  refine ⟨ao, cap, rfl, fun i hi => ?_⟩
  obtain ⟨b, o, rfl, hc, hd⟩ := h i hi
  rcases hne with rfl | hne
  · simp at hi
  · exact ⟨b, o, rfl, hg.cell hc hne, hg.cell hd hne⟩

/-- A slice of n elements of 'size' cells each that has a row of its own, all of which may be written. -/
def OS (w : World) (t size : Nat) (v : Value) (n : Nat) : Prop :=
  ∃ ao cap, v = .slice ao n cap ∧ (n = 0 ∨ ∃ b N f, ao = some ⟨b, 0, none⟩ ∧ n * size ≤ N ∧ w.rowIs b t N f)

theorem OS.later {w w' : World} {t size : Nat} {v : Value} {n : Nat} (h : OS w t size v n) (hb : Below w.heap.size w w') : OS w' t size v n := by
  obtain ⟨ao, cap, rfl, h⟩ := h
  refine ⟨ao, cap, rfl, ?_⟩
  rcases h with h | ⟨b, N, f, rfl, hN, hr⟩
  · exact .inl h
  · exact .inr ⟨b, N, f, rfl, hN, hr.of_block (hb.block b hr.lt)⟩

theorem OS.grown {w w' : World} {t size : Nat} {v : Value} {n : Nat} {row : Option Nat} (h : OS w t size v n) (hg : w.grownBy w' row) (hne : n = 0 ∨ v.ownBlock ≠ row) : OS w' t size v n := by
  obtain ⟨ao, cap, rfl, h⟩ := h
  refine ⟨ao, cap, rfl, ?_⟩
  rcases h with h | ⟨b, N, f, rfl, hN, hr⟩
  · exact .inl h
  · rcases hne with h | hne
    · exact .inl h
    · exact .inr ⟨b, N, f, rfl, hN, hr.of_block (hg.block b hr.lt hne)⟩

def marks (k : Int) (n : Nat) : List ByteArray := (List.range n).map fun i : Nat => mtext (k + i)
def wmarks (k : Int) (n : Nat) : List Wr := (List.range n).map fun i : Nat => (k + 2 * i, mtext (k + 2 * i + 1))
theorem marks_length (k : Int) (n : Nat) : (marks k n).length = n := by simp [marks]
theorem wmarks_length (k : Int) (n : Nat) : (wmarks k n).length = n := by simp [wmarks]
theorem marks_get (k : Int) (n i : Nat) (h : i < n) : (marks k n).getD i ByteArray.empty = mtext (k + i) := by simp [marks, h]
theorem wmarks_get (k : Int) (n i : Nat) (h : i < n) : (wmarks k n).getD i wr0 = (k + 2 * i, mtext (k + 2 * i + 1)) := by simp [wmarks, h]

/-- w' is w with new blocks, and with writes to two rows alone. -/
structure Two (w w' : World) (r1 r2 : Option Nat) : Prop where
  os : w'.os = w.os
  tape : w'.tape = w.tape
  output : w'.output = w.output
  size : w.heap.size ≤ w'.heap.size
  block : ∀ k, k < w.heap.size → some k ≠ r1 → some k ≠ r2 → w'.heap[k]? = w.heap[k]?

theorem Two.mk' {w a b c : World} {r1 r2 : Option Nat} (h0 : Below w.heap.size w a) (h1 : a.grownBy b r1) (h2 : b.grownBy c r2) : Two w c r1 r2 :=
  ⟨h2.os.trans (h1.os.trans h0.os), h2.tape.trans (h1.tape.trans h0.tape), h2.output.trans (h1.output.trans h0.output), Nat.le_trans h0.size (Nat.le_trans h1.size h2.size),
    fun k hk e1 e2 => (h2.block k (Nat.lt_of_lt_of_le hk (Nat.le_trans h0.size h1.size)) e2).trans ((h1.block k (Nat.lt_of_lt_of_le hk h0.size) e1).trans (h0.block k hk))⟩

theorem Two.below {w w' : World} {r1 r2 : Option Nat} {B : Nat} (h : Two w w' r1 r2) (hB : B ≤ w.heap.size) (h1 : ∀ k, r1 = some k → B ≤ k) (h2 : ∀ k, r2 = some k → B ≤ k) : Below B w w' :=
  ⟨h.os, h.tape, h.output, h.size, fun k hk => h.block k (by omega) (fun e => by have := h1 k e.symm; omega) (fun e => by have := h2 k e.symm; omega)⟩

/-- The row that is written where n elements of v are: none where there is nothing to write. -/
def rowOf (v : Value) (n : Nat) : Option Nat := if n = 0 then none else v.ownBlock

theorem OS.row {w : World} {t size : Nat} {v : Value} {n : Nat} (h : OS w t size v n) : ∀ b, rowOf v n = some b → b < w.heap.size := by
  intro b e
  obtain ⟨ao, cap, rfl, h⟩ := h
  rcases h with rfl | ⟨b', N, f, rfl, hN, hr⟩
  · simp [rowOf] at e
  · have := hr.lt
    unfold rowOf at e
    by_cases hn : n = 0
    · simp [hn] at e
    · simp [hn, Value.ownBlock] at e
      omega

theorem OS.apart {w : World} {t1 t2 s1 s2 : Nat} {v1 v2 : Value} {n m : Nat} (ht : t1 ≠ t2) (h1 : OS w t1 s1 v1 n) (h2 : OS w t2 s2 v2 m) : n = 0 ∨ v1.ownBlock ≠ rowOf v2 m := by
  obtain ⟨ao, cap, rfl, h1⟩ := h1
  obtain ⟨bo, cbp, rfl, h2⟩ := h2
  rcases h1 with h1 | ⟨b, N, f, rfl, hN, hr⟩
  · exact .inl h1
  · refine .inr fun e => ?_
    rcases h2 with rfl | ⟨b', N', f', rfl, hN', hr'⟩
    · simp [rowOf, Value.ownBlock] at e
    · unfold rowOf at e
      by_cases hm : m = 0
      · simp [hm, Value.ownBlock] at e
      · obtain rfl : b = b' := by simpa [hm, Value.ownBlock] using e
        obtain ⟨c, hc, _⟩ := hr
        obtain ⟨c', hc', _⟩ := hr'
        rw [hc] at hc'
        simp at hc'
        exact ht hc'.2

theorem Two.cell {w w' : World} {r1 r2 : Option Nat} (h : Two w w' r1 r2) {b o : Nat} {v : Value} (hc : w.cell? ⟨b, o, none⟩ = some v) (h1 : some b ≠ r1) (h2 : some b ≠ r2) : w'.cell? ⟨b, o, none⟩ = some v :=
  (World.cell?_of_block (w := w) (h.block b (World.block_lt_of_cell? _ _ hc) h1 h2)).trans hc

theorem row_ne {r : Option Nat} {c b : Nat} (h : ∀ b, r = some b → b < c) (hb : c ≤ b) : some b ≠ r := fun e => by
  have := h b e.symm
  omega

theorem row_ne' {r : Option Nat} {c b : Nat} (h : ∀ b, r = some b → c ≤ b) (hb : b < c) : some b ≠ r := fun e => by
  have := h b e.symm
  omega

theorem bel_one (w : World) (o : Obj) : Below w.heap.size w (w.alloc o) := (Below.refl _ _).alloc (Nat.le_refl _) _

end Go.Proofs.YtjclpbaiiklhcaaGreatDoor.Disk

/- Texts and late writes held against each other: eqStringS, eqWrite, eqWriteS, eqDisk. -/
namespace Go.Proofs.YtjclpbaiiklhcaaGreatDoor.Disk
open Go.RowKit



theorem pair_ne {s1 t1 : Int} {s2 t2 : ByteArray} (h : (!decide (s1 = t1)) = true ∨ (!decide (s2 = t2)) = true) : ¬ ((s1, s2) : Wr) = (t1, t2) := by
  intro e
  cases e
  simp at h

theorem pair_eq {s1 t1 : Int} {s2 t2 : ByteArray} (h : (!decide (s1 = t1)) = false ∧ (!decide (s2 = t2)) = false) : ((s1, s2) : Wr) = (t1, t2) := by
  obtain ⟨h1, h2⟩ := h
  simp at h1 h2
  rw [h1, h2]


/-- A disk's value reads as these sectors and late writes. -/
def DR (w : World) (v : Value) (ss : List ByteArray) (ws : List Wr) : Prop :=
  ∃ v1 v2, v = .agg #[v1, v2] ∧ SR w v1 ss ∧ WR w v2 ws ∧ ss.length ≤ 1000000000000000 ∧ ws.length ≤ 1000000000000000


end Go.Proofs.YtjclpbaiiklhcaaGreatDoor.Disk

/- markText answers the one text of its number, and makes memory of its own alone. -/
namespace Go.Proofs.YtjclpbaiiklhcaaGreatDoor.Disk
open Go.RowKit

theorem conv_one (w : World) (c : Int) : (convert 22 9 (.slice (some ⟨w.heap.size, 0, none⟩) 1 1)).run Tryz.prog (w.alloc (.cells #[.int .u8 c] 5)) = .ok (.string ⟨#[UInt8.ofNat c.toNat]⟩) (w.alloc (.cells #[.int .u8 c] 5)) := by
  have hl := run_loadCells_list (P := Tryz.prog) (w.alloc (.cells #[.int .u8 c] 5)) ⟨w.heap.size, 0, none⟩ ([c].map (Value.int .u8)) (fun j v hj => by
    match j, hj with
    | 0, hj => simp at hj; subst hj; simp [Addr.add])
  rw [run_convert_bytes_string _ 22 9 5 _ _ _ (by kernel_rfl) (by kernel_rfl) (by kernel_rfl), run_bytesToString _ _ 1 1 [c] hl]
  rfl


end Go.Proofs.YtjclpbaiiklhcaaGreatDoor.Disk

/- markStringS, heldStringS, markWriteS, heldWriteS, markDisk, heldDisk: marks that are laid are held. -/
namespace Go.Proofs.YtjclpbaiiklhcaaGreatDoor.Disk
open Go.RowKit

theorem row_mark {w : World} {b N j : Nat} {k : Int} {f : Nat → Value} (h : w.rowIs b 9 N (fun i : Nat => if i < j then .string (mtext (k + i)) else f i)) :
    (w.setCell ⟨b, j, none⟩ (.string (mtext (k + j)))).rowIs b 9 N (fun i : Nat => if i < j + 1 then .string (mtext (k + i)) else f i) := by
  refine (h.set j _).congr fun i _ => ?_
  by_cases e : i = j
  · subst e; simp
  · by_cases e' : i < j
    · rw [if_neg e, if_pos e', if_pos (by omega)]
    · rw [if_neg e, if_neg e', if_neg (by omega)]

theorem row_marks {w : World} {b N n cap : Nat} {k : Int} {f : Nat → Value} (h : w.rowIs b 9 N (fun i : Nat => if i < n then .string (mtext (k + i)) else f i)) (hN : n ≤ N) :
    SR w (.slice (some ⟨b, 0, none⟩) n cap) (marks k n) := by
  refine ⟨some ⟨b, 0, none⟩, cap, by rw [marks_length], fun i hi => ⟨b, 0, rfl, ?_⟩⟩
  rw [marks_length] at hi
  rw [marks_get k n i hi, Nat.zero_add, h.cell (by omega), if_pos hi]



end Go.Proofs.YtjclpbaiiklhcaaGreatDoor.Disk

/- markWriteS, heldWriteS, markDisk, heldDisk: marks that are laid are held. -/
namespace Go.Proofs.YtjclpbaiiklhcaaGreatDoor.Disk
open Go.RowKit

def wcell (k : Int) (c : Nat) : Value := if c % 2 = 0 then .int .i64 (k + c) else .string (mtext (k + c))

theorem wrow_mark {w : World} {b N j : Nat} {k : Int} {f : Nat → Value} (h : w.rowIs b 48 N (fun c => if c < j then wcell k c else f c)) (v : Value) (hv : v = wcell k j) :
    (w.setCell ⟨b, j, none⟩ v).rowIs b 48 N (fun c => if c < j + 1 then wcell k c else f c) := by
  refine (h.set j _).congr fun i _ => ?_
  by_cases e : i = j
  · subst e; simp [hv]
  · by_cases e' : i < j
    · rw [if_neg e, if_pos e', if_pos (by omega)]
    · rw [if_neg e, if_neg e', if_neg (by omega)]

theorem wcell_even (k : Int) (j : Nat) : wcell k (j * 2) = .int .i64 (k + 2 * j) := by
  unfold wcell
  rw [if_pos (by omega)]
  congr 1
  omega

theorem wcell_odd (k : Int) (j : Nat) : wcell k (j * 2 + 1) = .string (mtext (k + 2 * j + 1)) := by
  unfold wcell
  rw [if_neg (by omega), show k + ((j * 2 + 1 : Nat) : Int) = k + 2 * j + 1 from by omega]

theorem wrow_marks {w : World} {b N n cap : Nat} {k : Int} {f : Nat → Value} (h : w.rowIs b 48 N (fun c => if c < n * 2 then wcell k c else f c)) (hN : n * 2 ≤ N) :
    WR w (.slice (some ⟨b, 0, none⟩) n cap) (wmarks k n) := by
  refine ⟨some ⟨b, 0, none⟩, cap, by rw [wmarks_length], fun i hi => ⟨b, 0, rfl, ?_, ?_⟩⟩
  · rw [wmarks_length] at hi
    rw [wmarks_get k n i hi, Nat.zero_add, h.cell (by omega), if_pos (by omega), wcell_even]
  · rw [wmarks_length] at hi
    rw [wmarks_get k n i hi, Nat.zero_add, h.cell (by omega), if_pos (by omega), wcell_odd]





end Go.Proofs.YtjclpbaiiklhcaaGreatDoor.Disk

/- NewDisk of the program and of the model: a new disk of 64 empty sectors. -/
namespace Go.Proofs.YtjclpbaiiklhcaaGreatDoor.Disk
open Go.RowKit

/-- What was made since w: a disk's value with rows of its own that reads as these sectors and late writes. -/
def ND (B : Nat) (w' : World) (v1 v2 : Value) (ss : List ByteArray) (ws : List Wr) : Prop :=
  OS w' 9 1 v1 ss.length ∧ OS w' 48 2 v2 ws.length ∧ SR w' v1 ss ∧ WR w' v2 ws ∧ (∀ b, rowOf v1 ss.length = some b → B ≤ b) ∧ (∀ b, rowOf v2 ws.length = some b → B ≤ b)

theorem ND.later {B : Nat} {w w' : World} {v1 v2 : Value} {ss : List ByteArray} {ws : List Wr} (h : ND B w v1 v2 ss ws) (hb : Below w.heap.size w w') : ND B w' v1 v2 ss ws :=
  ⟨h.1.later hb, h.2.1.later hb, h.2.2.1.later hb, h.2.2.2.1.later hb, h.2.2.2.2⟩

theorem ND.s1 {B : Nat} {w : World} {v1 v2 : Value} {ss : List ByteArray} {ws : List Wr} (h : ND B w v1 v2 ss ws) : ∃ ao n cap, v1 = .slice ao n cap := by
  obtain ⟨ao, cap, e, _⟩ := h.1
  exact ⟨ao, _, cap, e⟩

theorem ND.s2 {B : Nat} {w : World} {v1 v2 : Value} {ss : List ByteArray} {ws : List Wr} (h : ND B w v1 v2 ss ws) : ∃ ao n cap, v2 = .slice ao n cap := by
  obtain ⟨ao, cap, e, _⟩ := h.2.1
  exact ⟨ao, _, cap, e⟩

theorem ND.dr {B : Nat} {w : World} {v1 v2 : Value} {ss : List ByteArray} {ws : List Wr} (h : ND B w v1 v2 ss ws) (h1 : ss.length ≤ 1000000000000000) (h2 : ws.length ≤ 1000000000000000) : DR w (.agg #[v1, v2]) ss ws :=
  ⟨v1, v2, rfl, h.2.2.1, h.2.2.2.1, h1, h2⟩

theorem Tryz.info9 : (Tryz.prog.info? 9).map (fun i => (i.zero, i.size, i.bytes)) = some (some (.string ⟨#[]⟩), 1, 16) := by kernel_rfl
theorem Tryz.under22 : Tryz.prog.underlying 24 = some (.slice 9) := by kernel_rfl

def empties : Array Value := madeCells #[.string ⟨#[]⟩] 64
def es64 : List ByteArray := List.replicate 64 ByteArray.empty
theorem es64_length : es64.length = 64 := by simp [es64]
theorem es64_get (i : Nat) (_h : i < 64) : es64.getD i ByteArray.empty = ByteArray.empty := by
  unfold es64
  rw [List.getD_eq_getElem?_getD, List.getElem?_replicate]
  split <;> rfl

theorem make64 (w : World) : (Instr.makeSlice 24 (.int .i64 64) (.int .i64 64)).run Tryz.prog w = .ok (.slice (some ⟨w.heap.size, 0, none⟩) 64 64) (w.alloc (.cells empties 9)) := by
  exact run_make_row' (P := Tryz.prog) 24 9 (.string ⟨#[]⟩) 16 Tryz.under22 Tryz.info9 rfl .i64 .i64 64 (by decide) (by decide) w

theorem empties_row (w : World) : (w.alloc (.cells empties 9)).rowIs w.heap.size 9 64 (fun _ => .string ⟨#[]⟩) := World.rowIs_made w _ 64 9

theorem nd_row (B : Nat) (w : World) (b : Nat) (h : w.rowIs b 9 64 (fun _ => .string ⟨#[]⟩)) (hB : B ≤ b) : ND B w (.slice (some ⟨b, 0, none⟩) 64 64) (.slice none 0 0) es64 [] := by
  rw [ND, es64_length]
  refine ⟨⟨_, _, rfl, .inr ⟨b, 64, _, rfl, by omega, h⟩⟩, ⟨_, _, rfl, .inl rfl⟩, ⟨_, _, by rw [es64_length], fun i hi => ⟨b, 0, rfl, ?_⟩⟩, ⟨_, _, rfl, fun i hi => by simp at hi⟩, fun b' e => ?_, fun b' e => by simp [rowOf] at e⟩
  · rw [es64_length] at hi
    rw [es64_get i hi, Nat.zero_add, h.cell hi]
    rfl
  · simp [rowOf, Value.ownBlock] at e
    omega

end Go.Proofs.YtjclpbaiiklhcaaGreatDoor.Disk

/- toStringS, toWrite, toWriteS, toDisk: copies in memory of their own. -/
namespace Go.Proofs.YtjclpbaiiklhcaaGreatDoor.Disk
open Go.RowKit

theorem Tryz.info53 : (Tryz.prog.info? 48).map (fun i => (i.zero, i.size, i.bytes)) = some (some (.agg #[.int .i64 0, .string ⟨#[]⟩]), 2, 24) := by kernel_rfl
theorem Tryz.under28 : Tryz.prog.underlying 25 = some (.slice 48) := by kernel_rfl

theorem make22 (n : Nat) (hn : n ≤ 10000000000000) (w : World) : (Instr.makeSlice 24 (.int .i64 (n : Int)) (.int .i64 (n : Int))).run Tryz.prog w = .ok (.slice (some ⟨w.heap.size, 0, none⟩) n n) (w.alloc (.cells (madeCells #[.string ⟨#[]⟩] n) 9)) :=
  run_make_row' (P := Tryz.prog) 24 9 (.string ⟨#[]⟩) 16 Tryz.under22 Tryz.info9 rfl .i64 .i64 n (by omega) (by omega) w

theorem make28 (n : Nat) (hn : n ≤ 10000000000000) (w : World) : (Instr.makeSlice 25 (.int .i64 (n : Int)) (.int .i64 (n : Int))).run Tryz.prog w = .ok (.slice (some ⟨w.heap.size, 0, none⟩) n n) (w.alloc (.cells (madeCells #[.int .i64 0, .string ⟨#[]⟩] (n * 2)) 48)) := by
  obtain ⟨i, hi, hzz⟩ := Option.map_eq_some_iff.1 Tryz.info53
  simp only [Prod.mk.injEq] at hzz
  obtain ⟨hz, hs, hb⟩ := hzz
  have hr := run_make (P := Tryz.prog) w 25 48 i _ Tryz.under28 hi hz .i64 .i64 n n (by omega) (Int.le_refl _) (by rw [hb]; omega) (by omega)
  rw [hs, Int.toNat_natCast] at hr
  exact hr

theorem row_any (w : World) (C : Array Value) (t : TypeId) : (w.alloc (.cells C t)).rowIs w.heap.size t C.size (fun i => C[i]?.getD undef) :=
  World.rowIs_alloc w C t _ (fun i hi => by simp [hi])

theorem made_row1 (w : World) (n : Nat) : ∃ f, (w.alloc (.cells (madeCells #[.string ⟨#[]⟩] n) 9)).rowIs w.heap.size 9 n f := by
  have h := row_any w (madeCells #[.string ⟨#[]⟩] n) 9
  rw [size_madeCells] at h
  exact ⟨_, h⟩

theorem made_row2 (w : World) (n : Nat) : ∃ f, (w.alloc (.cells (madeCells #[.int .i64 0, .string ⟨#[]⟩] (n * 2)) 48)).rowIs w.heap.size 48 (n * 2) f := by
  have h := row_any w (madeCells #[.int .i64 0, .string ⟨#[]⟩] (n * 2)) 48
  rw [size_madeCells] at h
  exact ⟨_, h⟩

theorem row_copy {w : World} {b N j : Nat} {t : TypeId} {g f : Nat → Value} (h : w.rowIs b t N (fun i => if i < j then g i else f i)) (v : Value) (hv : v = g j) :
    (w.setCell ⟨b, j, none⟩ v).rowIs b t N (fun i => if i < j + 1 then g i else f i) := by
  refine (h.set j _).congr fun i _ => ?_
  by_cases e : i = j
  · subst e; simp [hv]
  · by_cases e' : i < j
    · rw [if_neg e, if_pos e', if_pos (by omega)]
    · rw [if_neg e, if_neg e', if_neg (by omega)]

def scell (ss : List ByteArray) (i : Nat) : Value := .string (ss.getD i ByteArray.empty)
def lcell (ws : List Wr) (c : Nat) : Value := if c % 2 = 0 then .int .i64 (ws.getD (c / 2) wr0).1 else .string (ws.getD (c / 2) wr0).2

theorem lcell_even (ws : List Wr) (j : Nat) : lcell ws (j * 2) = .int .i64 (ws.getD j wr0).1 := by
  unfold lcell
  rw [if_pos (by omega), Nat.mul_div_cancel j (by omega)]

theorem lcell_odd (ws : List Wr) (j : Nat) : lcell ws (j * 2 + 1) = .string (ws.getD j wr0).2 := by
  unfold lcell
  rw [if_neg (by omega), show (j * 2 + 1) / 2 = j from by omega]

/-- A new slice of texts with a row of its own from block B on. -/
def NS (B : Nat) (w' : World) (v : Value) (ss : List ByteArray) : Prop :=
  OS w' 9 1 v ss.length ∧ SR w' v ss ∧ ∀ b, rowOf v ss.length = some b → B ≤ b
def NW (B : Nat) (w' : World) (v : Value) (ws : List Wr) : Prop :=
  OS w' 48 2 v ws.length ∧ WR w' v ws ∧ ∀ b, rowOf v ws.length = some b → B ≤ b

theorem ND_of {B : Nat} {w : World} {v1 v2 : Value} {ss : List ByteArray} {ws : List Wr} (h : NS B w v1 ss) (k : NW B w v2 ws) : ND B w v1 v2 ss ws :=
  ⟨h.1, k.1, h.2.1, k.2.1, h.2.2, k.2.2⟩

theorem NS.later {B : Nat} {w w' : World} {v : Value} {ss : List ByteArray} (h : NS B w v ss) (hb : Below w.heap.size w w') : NS B w' v ss := ⟨h.1.later hb, h.2.1.later hb, h.2.2⟩
theorem NW.later {B : Nat} {w w' : World} {v : Value} {ws : List Wr} (h : NW B w v ws) (hb : Below w.heap.size w w') : NW B w' v ws := ⟨h.1.later hb, h.2.1.later hb, h.2.2⟩
theorem NS.mono {B B' : Nat} {w : World} {v : Value} {ss : List ByteArray} (h : NS B w v ss) (hb : B' ≤ B) : NS B' w v ss := ⟨h.1, h.2.1, fun b e => Nat.le_trans hb (h.2.2 b e)⟩
theorem NW.mono {B B' : Nat} {w : World} {v : Value} {ws : List Wr} (h : NW B w v ws) (hb : B' ≤ B) : NW B' w v ws := ⟨h.1, h.2.1, fun b e => Nat.le_trans hb (h.2.2 b e)⟩

theorem ns_row {B : Nat} {w : World} {b N cap : Nat} {ss : List ByteArray} {f : Nat → Value} (h : w.rowIs b 9 N (fun i => if i < ss.length then scell ss i else f i)) (hN : ss.length ≤ N) (hB : B ≤ b) :
    NS B w (.slice (some ⟨b, 0, none⟩) ss.length cap) ss := by
  refine ⟨⟨_, _, rfl, .inr ⟨b, N, _, rfl, by omega, h⟩⟩, ⟨_, _, rfl, fun i hi => ⟨b, 0, rfl, ?_⟩⟩, fun b' e => ?_⟩
  · rw [Nat.zero_add, h.cell (by omega), if_pos hi]
    rfl
  · unfold rowOf at e
    by_cases hn : ss.length = 0
    · simp [hn] at e
    · simp [hn, Value.ownBlock] at e
      omega

theorem nw_row {B : Nat} {w : World} {b N cap : Nat} {ws : List Wr} {f : Nat → Value} (h : w.rowIs b 48 N (fun i => if i < ws.length * 2 then lcell ws i else f i)) (hN : ws.length * 2 ≤ N) (hB : B ≤ b) :
    NW B w (.slice (some ⟨b, 0, none⟩) ws.length cap) ws := by
  refine ⟨⟨_, _, rfl, .inr ⟨b, N, _, rfl, by omega, h⟩⟩, ⟨_, _, rfl, fun i hi => ⟨b, 0, rfl, ?_, ?_⟩⟩, fun b' e => ?_⟩
  · rw [Nat.zero_add, h.cell (by omega), if_pos (by omega), lcell_even]
  · rw [Nat.zero_add, h.cell (by omega), if_pos (by omega), lcell_odd]
  · unfold rowOf at e
    by_cases hn : ws.length = 0
    · simp [hn] at e
    · simp [hn, Value.ownBlock] at e
      omega




theorem NS.s1 {B : Nat} {w : World} {v : Value} {ss : List ByteArray} (h : NS B w v ss) : ∃ ao n cap, v = .slice ao n cap := by
  obtain ⟨ao, cap, e, _⟩ := h.1
  exact ⟨ao, _, cap, e⟩
theorem NW.s1 {B : Nat} {w : World} {v : Value} {ws : List Wr} (h : NW B w v ws) : ∃ ao n cap, v = .slice ao n cap := by
  obtain ⟨ao, cap, e, _⟩ := h.1
  exact ⟨ao, _, cap, e⟩

theorem cell_new (w : World) (C : Array Value) (t n : Nat) (hn : w.heap.size = n) (j : Nat) (v : Value) (hv : C[j]? = some v) : (w.alloc (.cells C t)).cell? ⟨n, j, none⟩ = some v := by
  subst hn
  rw [World.cell?_alloc_mark]
  exact hv

theorem frozen_new (w : World) (C : Array Value) (t n : Nat) (hn : w.heap.size = n) (j : Nat) : (w.alloc (.cells C t)).frozen? ⟨n, j, none⟩ = false := by
  subst hn
  rw [World.frozen?_alloc_mark]
  simp

theorem frozen_later {w w' : World} {b o : Nat} (hb : Below w.heap.size w w') (hlt : b < w.heap.size) (h : w.frozen? ⟨b, o, none⟩ = false) : w'.frozen? ⟨b, o, none⟩ = false :=
  (hb.frozen (p := ⟨b, o, none⟩) hlt).trans h

theorem row_own {v : Value} {n b : Nat} (h : ∀ b', rowOf v n = some b' → b < b') : n = 0 ∨ v.ownBlock ≠ some b := by
  by_cases hn : n = 0
  · exact .inl hn
  · right
    intro e
    have := h b (by rw [rowOf, if_neg hn]; exact e)
    omega

/-- A store below the row leaves the slice as it was. -/
theorem NS.store {B : Nat} {w : World} {v : Value} {ss : List ByteArray} (h : NS B w v ss) {b o : Nat} (u : Value) (hb : b < B) : NS B (w.setCell ⟨b, o, none⟩ u) v ss := by
  have hr := row_own (v := v) (n := ss.length) (b := b) (fun b' e => Nat.lt_of_lt_of_le hb (h.2.2 b' e))
  exact ⟨h.1.grown (grown_set w b o u) hr, h.2.1.grown (grown_set w b o u) (hr.elim (fun e => .inl (List.length_eq_zero_iff.1 e)) .inr), h.2.2⟩

theorem NW.store {B : Nat} {w : World} {v : Value} {ws : List Wr} (h : NW B w v ws) {b o : Nat} (u : Value) (hb : b < B) : NW B (w.setCell ⟨b, o, none⟩ u) v ws := by
  have hr := row_own (v := v) (n := ws.length) (b := b) (fun b' e => Nat.lt_of_lt_of_le hb (h.2.2 b' e))
  exact ⟨h.1.grown (grown_set w b o u) hr, h.2.1.grown (grown_set w b o u) (hr.elim (fun e => .inl (List.length_eq_zero_iff.1 e)) .inr), h.2.2⟩


end Go.Proofs.YtjclpbaiiklhcaaGreatDoor.Disk

/- DiskOk of the model: whether a disk is right. -/
namespace Go.Proofs.YtjclpbaiiklhcaaGreatDoor.Disk
open Go.RowKit

def okS (s : ByteArray) : Bool := decide (s.size ≤ 256)
def okW (x : Wr) : Bool := decide (0 ≤ x.1 ∧ x.1 ≤ 63 ∧ x.2.size ≤ 256)
def okD (ss : List ByteArray) (ws : List Wr) : Bool := decide (ss.length = 64) && decide (ws.length ≤ 200) && ss.all okS && ws.all okW

theorem okD_len {ss : List ByteArray} {ws : List Wr} (h : ¬ ss.length = 64) : okD ss ws = false := by simp [okD, h]
theorem okD_late {ss : List ByteArray} {ws : List Wr} (h : ¬ ws.length ≤ 200) : okD ss ws = false := by simp [okD, h]

theorem okD_text {ss : List ByteArray} {ws : List Wr} {k : Nat} (hk : k < ss.length) (h : ¬ (ss.getD k ByteArray.empty).size ≤ 256) : okD ss ws = false := by
  have h2 : ss.all okS = false := by
    rw [List.all_eq_false]
    refine ⟨ss[k], List.getElem_mem hk, ?_⟩
    rw [List.getD_eq_getElem?_getD, List.getElem?_eq_getElem hk] at h
    simpa [okS] using h
  simp [okD, h2]

theorem okD_write {ss : List ByteArray} {ws : List Wr} {k : Nat} (hk : k < ws.length) (h : okW (ws.getD k wr0) = false) : okD ss ws = false := by
  have h2 : ws.all okW = false := by
    rw [List.all_eq_false]
    refine ⟨ws[k], List.getElem_mem hk, ?_⟩
    rw [List.getD_eq_getElem?_getD, List.getElem?_eq_getElem hk] at h
    simpa using h
  simp [okD, h2]

theorem okD_yes {ss : List ByteArray} {ws : List Wr} (h1 : ss.length = 64) (h2 : ws.length ≤ 200) (h3 : ∀ k, k < ss.length → (ss.getD k ByteArray.empty).size ≤ 256) (h4 : ∀ k, k < ws.length → okW (ws.getD k wr0) = true) : okD ss ws = true := by
  have e3 : ss.all okS = true := by
    rw [List.all_eq_true]
    intro s hs
    obtain ⟨k, hk, rfl⟩ := List.getElem_of_mem hs
    have := h3 k hk
    rw [List.getD_eq_getElem?_getD, List.getElem?_eq_getElem hk] at this
    simpa [okS] using this
  have e4 : ws.all okW = true := by
    rw [List.all_eq_true]
    intro s hs
    obtain ⟨k, hk, rfl⟩ := List.getElem_of_mem hs
    have := h4 k hk
    rw [List.getD_eq_getElem?_getD, List.getElem?_eq_getElem hk] at this
    simpa using this
  simp [okD, h1, h2, e3, e4]

set_option maxHeartbeats 400000 in
theorem l1In_any (x lo hi : Int) (w : World) :
    Calls Tryz.prog 45 #[.int .i64 x, .int .i64 lo, .int .i64 hi] w fun e w' => e = .returned (.bool (decide (lo ≤ x ∧ x ≤ hi))) ∧ w' = w := by
  by_cases h : lo ≤ x
  · by_cases h2 : x ≤ hi
    · have g : (decide (lo ≤ x ∧ x ≤ hi)) = true := by simp [h, h2]
      rw [g]
      clear g
      go_enter Tryz.func45, Tryz.ntmps45
      go_wp2
      go_ret
      exact ⟨ret_bool rfl, rfl⟩
    · have g : (decide (lo ≤ x ∧ x ≤ hi)) = false := by simp [h2]
      rw [g]
      clear g
      go_enter Tryz.func45, Tryz.ntmps45
      go_wp2
      go_ret
      exact ⟨ret_bool rfl, rfl⟩
  · have g : (decide (lo ≤ x ∧ x ≤ hi)) = false := by simp [h]
    rw [g]
    clear g
    go_enter Tryz.func45, Tryz.ntmps45
    go_wp2
    go_ret
    exact ⟨ret_bool rfl, rfl⟩

theorem okW_in {a : Int} {s : ByteArray} (h : 0 ≤ a ∧ a ≤ 63) : decide ((s.size : Int) ≤ 256) = okW (a, s) := by
  unfold okW
  by_cases h2 : s.size ≤ 256
  · have : (s.size : Int) ≤ 256 := by omega
    simp [h, h2, this]
  · have : ¬ (s.size : Int) ≤ 256 := by omega
    simp [h2, this]

theorem okW_out {a : Int} {s : ByteArray} (h : ¬ (0 ≤ a ∧ a ≤ 63)) : false = okW (a, s) := by
  unfold okW
  simp
  intro h1 h2
  exact absurd ⟨h1, h2⟩ h

set_option maxHeartbeats 400000 in
theorem l1Write_any (a : Int) (s : ByteArray) (w : World) :
    Calls Tryz.prog 66 #[.agg #[.int .i64 a, .string s]] w fun e w' => e = .returned (.bool (okW (a, s))) ∧ Below w.heap.size w w' := by
  have hb0 := bel_one w (.cells #[.int .i64 a, .string s] 48)
  go_enter Tryz.func66, Tryz.ntmps66
  go_wp2_with (fail)
  refine (l1In_any _ _ _ _).mono ?_
  rintro e w1 ⟨rfl, rfl⟩
  by_cases h : 0 ≤ a ∧ a ≤ 63
  · rw [decide_eq_true h]
    go_wp2
    go_ret
    exact ⟨ret_bool (okW_in h), hb0⟩
  · rw [decide_eq_false h]
    have HH : Hid (¬ (0 ≤ a ∧ a ≤ 63)) := h
    clear h
    go_wp2
    go_ret
    exact ⟨ret_bool (okW_out HH.out), hb0⟩

set_option maxHeartbeats 1000000 in
theorem specDiskOk_any (v1 v2 : Value) (ss : List ByteArray) (ws : List Wr) (w : World) (hv1 : SR w v1 ss) (hv2 : WR w v2 ws) (h1 : ss.length ≤ 10000000000000) (h2 : ws.length ≤ 10000000000000) :
    Calls Tryz.prog 42 #[.agg #[v1, v2]] w fun e w' => e = .returned (.bool (okD ss ws)) ∧ Below w.heap.size w w' := by
  obtain ⟨ao, cap, rfl, hv⟩ := hv1
  obtain ⟨bo, cbp, rfl, hu⟩ := hv2
  have hb0 := bel_one w (.cells #[.slice ao ss.length cap, .slice bo ws.length cbp] 27)
  by_cases h64 : ss.length = 64
  · have t1 : ((ss.length : Int) != 64) = false := by simp [h64]
    have H64 : Hid (ss.length = 64) := h64
    clear h64
    by_cases h200 : ws.length ≤ 200
    · have t2 : decide ((200 : Int) < (ws.length : Int)) = false := by simp; omega
      go_enter Tryz.func42, Tryz.ntmps42
      go_wp2
      go_loopw [3] (fun i wr => ∃ (j : Nat), j ≤ ss.length ∧ i = .int .i64 j ∧ Hid (∀ k, k < j → (ss.getD k ByteArray.empty).size ≤ 256) ∧ Below (w.heap.size + 1) (w.alloc (.cells #[.slice ao ss.length cap, .slice bo ws.length cbp] 27)) wr) (fun i _ => ss.length - (intOf i).toNat)
      case atStart => exact ⟨0, Nat.zero_le _, rfl, fun k hk => absurd hk (by omega), Below.refl _ _⟩
      case round =>
        obtain ⟨j, hj, rfl, hall, hb⟩ := hrel
        have c1 : wr.cell? ⟨w.heap.size, 0, none⟩ = some (.slice ao ss.length cap) := (hb.cell (p := ⟨w.heap.size, 0, none⟩) (by simp)).trans (cell_new w #[.slice ao ss.length cap, .slice bo ws.length cbp] 27 _ rfl 0 _ rfl)
        have c2 : wr.cell? ⟨w.heap.size, 1, none⟩ = some (.slice bo ws.length cbp) := (hb.cell (p := ⟨w.heap.size, 1, none⟩) (by simp)).trans (cell_new w #[.slice ao ss.length cap, .slice bo ws.length cbp] 27 _ rfl 1 _ rfl)
        have hbw : Below w.heap.size w wr := hb0.trans (hb.mono (by omega))
        by_cases hlt : j < ss.length
        · obtain ⟨b, o, rfl, hc⟩ := hv j hlt
          have hc1 := cell_later hbw hc
          generalize hs : ss.getD j ByteArray.empty = s at *
          have HS : Hid (ss.getD j ByteArray.empty = s) := hs
          clear hv hc hs
          by_cases hsz : s.size ≤ 256
          · go_wp2
            go_roundw
            case rel => exact ⟨j + 1, by omega, by go_num, all_upto hall.out (by rw [HS.out]; exact hsz), hb⟩
            case measure => simp [intOf]; omega
          · go_wp2
            go_ret
            exact ⟨ret_bool (okD_text hlt (by rw [HS.out]; exact hsz)).symm, hbw⟩
        · obtain rfl : j = ss.length := by omega
          clear hv
          go_wp2
          go_loopw [4] (fun i wr => ∃ (j : Nat), j ≤ ws.length ∧ i = .int .i64 j ∧ Hid (∀ k, k < j → okW (ws.getD k wr0) = true) ∧ Below (w.heap.size + 1) (w.alloc (.cells #[.slice ao ss.length cap, .slice bo ws.length cbp] 27)) wr) (fun i _ => ws.length - (intOf i).toNat)
          case atStart => exact ⟨0, Nat.zero_le _, rfl, fun k hk => absurd hk (by omega), hb⟩
          case round =>
            clear c1 c2 hb hbw
            obtain ⟨i, hi, rfl, hall2, hb⟩ := hrel
            have c2 : wr.cell? ⟨w.heap.size, 1, none⟩ = some (.slice bo ws.length cbp) := (hb.cell (p := ⟨w.heap.size, 1, none⟩) (by simp)).trans (cell_new w #[.slice ao ss.length cap, .slice bo ws.length cbp] 27 _ rfl 1 _ rfl)
            have hbw : Below w.heap.size w wr := hb0.trans (hb.mono (by omega))
            by_cases hlt : i < ws.length
            · obtain ⟨b, o, rfl, hc, hd⟩ := hu i hlt
              have hc1 := cell_later hbw hc
              have hd1 := cell_later hbw hd
              generalize hs : ws.getD i wr0 = s at *
              have HS : Hid (ws.getD i wr0 = s) := hs
              obtain ⟨s1, s2⟩ := s
              clear hu hc hs hd
              go_wp2_with (fail)
              refine (l1Write_any _ _ _).mono ?_
              rintro e w2 ⟨rfl, hb2⟩
              have hb3 := hb.trans (hb2.mono (Nat.le_trans (by simp) hb.size))
              have hbw3 := bel_then hbw hbw.size hb2
              clear hb hb2 hbw
              cases hok : okW (s1, s2)
              · have HK : Hid (okW (s1, s2) = false) := hok
                clear hok
                go_wp2
                go_ret
                exact ⟨ret_bool (okD_write hlt (by rw [HS.out]; exact HK.out)).symm, hbw3⟩
              · have HK : Hid (okW (s1, s2) = true) := hok
                clear hok
                go_wp2
                go_roundw
                case rel => exact ⟨i + 1, by omega, by go_num, all_upto hall2.out (by rw [HS.out]; exact HK.out), hb3⟩
                case measure => simp [intOf]; omega
            · obtain rfl : i = ws.length := by omega
              clear hu
              go_wp2
              go_ret
              exact ⟨ret_bool (okD_yes H64.out h200 hall.out hall2.out).symm, hbw⟩
    · have t2 : decide ((200 : Int) < (ws.length : Int)) = true := by simp; omega
      go_enter Tryz.func42, Tryz.ntmps42
      go_wp2
      go_ret
      exact ⟨ret_bool (okD_late h200).symm, hb0⟩
  · have t1 : ((ss.length : Int) != 64) = true := by simp; omega
    go_enter Tryz.func42, Tryz.ntmps42
    go_wp2
    go_ret
    exact ⟨ret_bool (okD_len h64).symm, hb0⟩

end Go.Proofs.YtjclpbaiiklhcaaGreatDoor.Disk

/- inOrder: the late writes of a slice come one behind the other, each with its number. -/
namespace Go.Proofs.YtjclpbaiiklhcaaGreatDoor.Disk
open Go.RowKit Go.Shelf

attribute [local go_sem] Oper.semAt_some

abbrev NW1 := Nat × Wr
def enc2 (x : NW1) : Array Value := #[.int .i64 (x.1 : Int), .agg #[.int .i64 x.2.1, .string x.2.2]]
/-- The first k writes with their numbers. -/
def num (ws : List Wr) (k : Nat) : List NW1 := (List.range k).map fun i => (i, ws.getD i wr0)
theorem num_succ (ws : List Wr) (k : Nat) : num ws (k + 1) = num ws k ++ [(k, ws.getD k wr0)] := by simp [num, List.range_succ]
theorem num_length (ws : List Wr) (k : Nat) : (num ws k).length = k := by simp [num]

set_option maxRecDepth 100000 in
set_option maxHeartbeats 2000000 in
theorem inOrder1_in (F : Fence) (n : Nat) (h50 : F.fn 82) (hro : F.round = none) (hn : 1 ≤ n) (l Bs : Nat) (wb : World) (v : Value) (ws : List Wr) (hwr : WR wb v ws) (hlen : ws.length ≤ 10000000000000)
    (J Jx : List NW1 → World → Prop) (W : World) (hJ : AbidesFrom W.heap.size J)
    (hY : ∀ pre x W, J pre W → pre.length < ws.length → YieldAt F (n - 1) Tryz.prog l (enc2 x) W fun e W' =>
      (e = .returned (.bool true) ∧ J (pre ++ [x]) W' ∧ Below wb.heap.size W W') ∨ (e = .returned (.bool false) ∧ Jx (pre ++ [x]) W'))
    (hbW : Below wb.heap.size wb W) (hBs : W.cell? ⟨Bs, 0, none⟩ = some v) (h0 : J [] W) :
    CallsIn F n Tryz.prog 82 #[.func (.yield l) #[] #[], .pointer (some ⟨Bs, 0, none⟩)] W fun e W' => (∃ v, e = .returned v) ∧
      ((∃ ys, ys = num ws ws.length ∧ J ys W') ∨ (∃ pre, (∃ k, k ≤ ws.length ∧ pre = num ws k) ∧ Jx pre W')) := by
  obtain ⟨ao, cap, rfl, hv⟩ := hwr
  refine callsIn_of_wp Tryz.func82 rfl h50 ?_ hro
  simp only [Tryz.ntmps82, List.size_toArray, List.length_cons, List.length_nil, Nat.reduceAdd, Nat.reduceSub, Array.replicate_succ, Array.replicate_zero, List.push_toArray, List.append_toArray, List.nil_append, List.cons_append]
  gi_wp2
  gi_loopw [7] (fun i wr => ∃ k : Nat, k ≤ ws.length ∧ i = .int .i64 k ∧ J (num ws k) wr ∧ Below wb.heap.size wb wr) (fun i _ => ws.length - (intOf i).toNat)
  case atStart => exact ⟨0, Nat.zero_le _, rfl, h0, hbW⟩
  case round =>
    obtain ⟨k, hk, rfl, hJs, hb⟩ := hrel
    by_cases hlt : k < ws.length
    · obtain ⟨b, o, rfl, hc, hd⟩ := hv k hlt
      have hc1 := cell_later hb hc
      have hd1 := cell_later hb hd
      generalize hs : ws.getD k wr0 = s at *
      have HS : Hid (ws.getD k wr0 = s) := hs
      obtain ⟨s1, s2⟩ := s
      have hJa : J (num ws k) (wr.alloc (.cells #[.int .i64 s1, .string s2] 48)) := hJ _ _ _ none hJs (World.grownBy_alloc wr _ none) (fun r e => by cases e)
      obtain ⟨fn, tmps, assign, body, hy, hR⟩ := hY _ (k, (s1, s2)) _ hJa (by rw [num_length]; exact hlt)
      dsimp only [enc2] at hy
      clear hv hc hs hd
      gi_wp2
      refine hR.mono ?_
      rintro e W3 (⟨rfl, hJ3, hk3⟩ | ⟨rfl, hJx3⟩)
      · gi_wp2
        go_roundw
        case rel => exact ⟨k + 1, by omega, by simp, by rw [num_succ, HS.out]; exact hJ3, (hb.alloc hb.size _).trans hk3⟩
        case measure => simp [intOf]; omega
      · gi_wp2
        refine bodyPost_ret (results_none rfl _ _ _) rfl ?_
        exact ⟨⟨_, rfl⟩, .inr ⟨_, ⟨k + 1, by omega, by rw [num_succ, HS.out]⟩, hJx3⟩⟩
    · obtain rfl : k = ws.length := by omega
      gi_wp2
      go_end0
      exact ⟨⟨_, rfl⟩, .inl ⟨_, rfl, hJs⟩⟩

set_option maxHeartbeats 1000000 in
theorem inOrder_in (F : Fence) (n : Nat) (h35 : F.fn 57) (hro : F.round = none) (a : Option Addr) (len cap : Nat) (w : World) :
    CallsIn F n Tryz.prog 57 #[.slice a len cap] w fun e w' => e = .returned (.func (.func 82) #[] #[.pointer (some ⟨w.heap.size, 0, none⟩)]) ∧ w' = w.alloc (.cells #[.slice a len cap] 25) := by
  refine callsIn_of_wp Tryz.func57 rfl h35 ?_ hro
  simp only [Tryz.ntmps57, List.size_toArray, List.length_cons, List.length_nil, Nat.reduceAdd, Nat.reduceSub, Array.replicate_succ, Array.replicate_zero, List.push_toArray, List.append_toArray, List.nil_append, List.cons_append]
  gi_wp2
  go_ret
  exact ⟨rfl, rfl⟩

/-- What inOrder hands back goes through all writes, or stops behind some of them. -/
theorem inOrder_stops (F : Fence) (n : Nat) (h50 : F.fn 82) (hro : F.round = none) (hn : 1 ≤ n) (Bs : Nat) (wb : World) (v : Value) (ws : List Wr) (hwr : WR wb v ws) (hlen : ws.length ≤ 10000000000000) (w : World)
    (hbW : Below wb.heap.size wb w) (hBs : w.cell? ⟨Bs, 0, none⟩ = some v) :
    SeqStopsK F n Tryz.prog 82 #[.pointer (some ⟨Bs, 0, none⟩)] enc2 (Below wb.heap.size) (fun ys => ys = num ws ws.length) (fun pre => ∃ k, k ≤ ws.length ∧ pre = num ws k) ws.length w := fun l J Jx W hW hJ _ hY h0 =>
  inOrder1_in F n h50 hro hn l Bs wb v ws hwr hlen J Jx W hJ hY (hbW.trans (hW.mono hbW.size)) (cell_later hW hBs) h0

end Go.Proofs.YtjclpbaiiklhcaaGreatDoor.Disk

/- DiskOk of the program: whether a disk is right. -/
namespace Go.Proofs.YtjclpbaiiklhcaaGreatDoor.Disk
open Go.RowKit Go.Shelf

attribute [local go_sem] Oper.semAt_some

set_option maxHeartbeats 400000 in
theorem fitsSector_any (s : ByteArray) (w : World) : Calls Tryz.prog 72 #[.string s] w fun e w' => e = .returned (.bool (okS s)) ∧ w' = w := by
  go_enter Tryz.func72, Tryz.ntmps72
  go_wp2
  go_ret
  exact ⟨ret_bool (by
    unfold okS
    by_cases h : s.size ≤ 256
    · have : (s.size : Int) ≤ 256 := by omega
      simp [h, this]
    · have : ¬ (s.size : Int) ≤ 256 := by omega
      simp [h, this]), rfl⟩

def okN (a : Int) : Bool := decide (0 ≤ a ∧ a ≤ 63)

theorem okN_in {a : Int} (h : 0 ≤ a) : decide (a < 64) = okN a := by
  unfold okN
  by_cases h2 : a < 64
  · rw [decide_eq_true h2, decide_eq_true (p := 0 ≤ a ∧ a ≤ 63) ⟨h, by omega⟩]
  · rw [decide_eq_false h2, decide_eq_false (p := 0 ≤ a ∧ a ≤ 63) (by omega)]

theorem okN_out {a : Int} (h : ¬ 0 ≤ a) : false = okN a := by
  unfold okN
  rw [decide_eq_false (p := 0 ≤ a ∧ a ≤ 63) (by omega)]

set_option maxHeartbeats 400000 in
theorem isSector_any (a : Int) (w : World) : Calls Tryz.prog 73 #[.int .i64 a] w fun e w' => e = .returned (.bool (okN a)) ∧ w' = w := by
  by_cases h : 0 ≤ a
  · go_enter Tryz.func73, Tryz.ntmps73
    go_wp2
    go_ret
    exact ⟨ret_bool (okN_in h), rfl⟩
  · go_enter Tryz.func73, Tryz.ntmps73
    go_wp2
    go_ret
    exact ⟨ret_bool (okN_out (by omega)), rfl⟩

theorem okW_split (a : Int) (s : ByteArray) : okW (a, s) = (okN a && okS s) := by
  unfold okW okN okS
  by_cases h : 0 ≤ a ∧ a ≤ 63
  · by_cases h2 : s.size ≤ 256
    · simp [h, h2]
    · simp [h2]
  · rw [decide_eq_false (p := 0 ≤ a ∧ a ≤ 63) h]
    simp
    intro h1 h2
    exact absurd ⟨h1, h2⟩ h

theorem num_all {ws : List Wr} {n : Nat} (h : ∀ x ∈ num ws n, okW x.2 = true) : ∀ k, k < n → okW (ws.getD k wr0) = true := fun k hk =>
  h (k, ws.getD k wr0) (List.mem_map.2 ⟨k, List.mem_range.2 hk, rfl⟩)

theorem num_bad {ss : List ByteArray} {ws : List Wr} {pre : List NW1} (h : ∃ k, k ≤ ws.length ∧ pre = num ws k) (hx : ∃ x ∈ pre, okW x.2 = false) : okD ss ws = false := by
  obtain ⟨k, hk, rfl⟩ := h
  obtain ⟨x, hx, hf⟩ := hx
  obtain ⟨i, hi, rfl⟩ := List.mem_map.1 hx
  exact okD_write (k := i) (by have := List.mem_range.1 hi; omega) hf

theorem cells_own {X Y : World} {B : Nat} {c : Array Value} {t : TypeId} {row : Option Nat} (h : X.heap[B]? = some (.cells c t (0, 0))) (hg : X.grownBy Y row) (hr : ∀ r, row = some r → ∃ o : Obj, X.heap[r]? = some o ∧ o.isCells = false) : Y.heap[B]? = some (.cells c t (0, 0)) := by
  refine (hg.block B (Array.getElem?_eq_some_iff.1 h).1 (fun e => ?_)).trans h
  obtain ⟨o, ho, hc⟩ := hr B e.symm
  rw [h] at ho
  cases ho
  simp [Obj.isCells] at hc

set_option maxRecDepth 100000 in
set_option maxHeartbeats 2000000 in
theorem implDiskOk_any (v1 v2 : Value) (ss : List ByteArray) (ws : List Wr) (w : World) (hv1 : SR w v1 ss) (hv2 : WR w v2 ws) (h1 : ss.length ≤ 10000000000000) (h2 : ws.length ≤ 10000000000000) :
    Calls Tryz.prog 51 #[.agg #[v1, v2]] w fun e w' => e = .returned (.bool (okD ss ws)) ∧ Below w.heap.size w w' := by
  have hv2' := hv2
  obtain ⟨ao, cap, rfl, hv⟩ := hv1
  obtain ⟨bo, cbp, rfl, hu⟩ := hv2
  have hb0 := bel_two w (.cells #[.slice ao ss.length cap, .slice bo ws.length cbp] 27) (.cells #[.bool false] 4)
  by_cases h64 : ss.length = 64
  · have t1 : ((ss.length : Int) != 64) = false := by simp [h64]
    have H64 : Hid (ss.length = 64) := h64
    clear h64
    by_cases h200 : ws.length ≤ 200
    · have t2 : decide ((200 : Int) < (ws.length : Int)) = false := by simp; omega
      refine (callsIn_wide (n := 9)).1 ?_
      refine callsIn_of_wp_marks Tryz.func51 rfl trivial ?_ rfl
      simp only [Tryz.ntmps51, List.size_toArray, List.length_cons, List.length_nil, Nat.reduceAdd, Nat.reduceSub, Array.replicate_succ, Array.replicate_zero, List.push_toArray, List.append_toArray, List.nil_append, List.cons_append]
      gi_wp2
      gi_loopw [20] (fun i wr => ∃ (j : Nat), j ≤ ss.length ∧ i = .int .i64 j ∧ Hid (∀ k, k < j → (ss.getD k ByteArray.empty).size ≤ 256) ∧ wr = (w.alloc (.cells #[.slice ao ss.length cap, .slice bo ws.length cbp] 27)).alloc (.cells #[.bool false] 4)) (fun i _ => ss.length - (intOf i).toNat)
      case atStart => exact ⟨0, Nat.zero_le _, rfl, fun k hk => absurd hk (by omega), rfl⟩
      case round =>
        obtain ⟨j, hj, rfl, hall, rfl⟩ := hrel
        by_cases hlt : j < ss.length
        · obtain ⟨b, o, rfl, hc⟩ := hv j hlt
          have hc1 := cell_later hb0 hc
          generalize hs : ss.getD j ByteArray.empty = s at *
          have HS : Hid (ss.getD j ByteArray.empty = s) := hs
          clear hv hc hs hu
          gi_wp2_with (fail)
          refine ⟨trivial, (callsIn_wide.2 (fitsSector_any _ _)).mono ?_⟩
          rintro e w' ⟨rfl, rfl⟩
          cases hok : okS s
          · have HK : Hid (okS s = false) := hok
            clear hok
            gi_wp2
            exact ⟨.bool false, by simp [results, Tryz.f51, go_sem], ret_bool (okD_text hlt (by rw [HS.out]; have := HK.out; simpa [okS] using this)).symm, hb0⟩
          · have HK : Hid (okS s = true) := hok
            clear hok
            gi_wp2
            go_roundw
            case rel => exact ⟨j + 1, by omega, by simp, all_upto hall.out (by rw [HS.out]; have := HK.out; simpa [okS] using this), by trivial⟩
            case measure => simp [intOf]; omega
        · obtain rfl : j = ss.length := by omega
          clear hv hu
          gi_wp2_with (fail)
          refine ⟨trivial, (inOrder_in Fence.wide _ trivial rfl _ _ _ _).mono ?_⟩
          rintro e w' ⟨rfl, rfl⟩
          gi_wp2_with (fail)
          obtain ⟨W0, hW0⟩ : ∃ W0, ((w.alloc (.cells #[.slice ao ss.length cap, .slice bo ws.length cbp] 27)).alloc (.cells #[.bool false] 4)).alloc (.cells #[.slice bo ws.length cbp] 25) = W0 := ⟨_, rfl⟩
          have hB0 : Below w.heap.size w W0 := by rw [← hW0]; exact hb0.alloc (by simp; omega) _
          have bR : Boxed W0 (w.heap.size + 1) 4 (.bool false) := by
            rw [← hW0]
            have h := (Boxed.new (w.alloc (.cells #[.slice ao ss.length cap, .slice bo ws.length cbp] 27)) 4 (.bool false)).alloc (.cells #[.slice bo ws.length cbp] 25)
            rwa [World.size_alloc] at h
          have cB : W0.cell? ⟨w.heap.size + 1 + 1, 0, none⟩ = some (.slice bo ws.length cbp) := by
            rw [← hW0]
            exact cell_new _ #[.slice bo ws.length cbp] 25 _ (by simp) 0 _ rfl
          have hsz : W0.heap.size = w.heap.size + 3 := by rw [← hW0]; simp
          rw [hW0]
          clear hW0
          refine wpIn_rangeFunc_ownH (F := Fence.wide) (n := 9) rfl (by omega) (gf := 82) (lb := #[.pointer (some ⟨w.heap.size + 1 + 1, 0, none⟩)]) rfl trivial (enters_of Tryz.func82 (by kernel_rfl) rfl)
            (inOrder_stops Fence.wide (9 - 1) trivial rfl (by omega) (w.heap.size + 1 + 1) w _ ws hv2' h2 W0 hB0 cB) belowK_t (belowK_b (by omega)) (Below.refl _ _) (fun _ => rfl)
            (fun pre W => ((∀ x ∈ pre, okW x.2 = true) ∧ Boxed W (w.heap.size + 1) 4 (.bool false)) ∧ Below w.heap.size w W)
            (fun c pre W => ((c = .ret ∧ ∃ x ∈ pre, okW x.2 = false) ∧ Boxed W (w.heap.size + 1) 4 (.bool false)) ∧ Below w.heap.size w W)
            (OwnFrom.and (OwnFrom.and (ownFrom_pure _ _) (Own.from (boxed_own _ _ _) _)) (ownFrom_below (Nat.le_refl _) (by omega)))
            (fun c => OwnFrom.and (OwnFrom.and (ownFrom_pure _ _) (Own.from (boxed_own _ _ _) _)) (ownFrom_below (Nat.le_refl _) (by omega)))
            ⟨⟨by simp, bR⟩, hB0⟩
            (fun x a' W => ∃ Bx, w.heap.size + 1 < Bx ∧ W.heap[Bx]? = some (.cells #[.int .i64 x.2.1, .string x.2.2] 48 (0, 0)) ∧ a' = { tmps := #[Value.agg #[Value.slice ao ss.length cap, Value.slice bo ws.length cbp], Value.pointer (some { block := w.heap.size, off := 0 }), Value.pointer (some { block := w.heap.size + 1, off := 0 }), undef, u4, undef, Value.pointer (some ⟨Bx, 0, none⟩), Value.pointer (some { block := w.heap.size, off := 0 }), Value.slice ao ss.length cap, Value.int IntKind.i64 ↑ss.length, Value.bool false, Value.bool false, Value.pointer (some { block := w.heap.size, off := 1 }), Value.slice bo ws.length cbp, Value.int IntKind.i64 ↑ws.length, Value.bool false, Value.bool false, Value.pointer (some { block := w.heap.size, off := 0 }), Value.slice ao ss.length cap, Value.int IntKind.i64 ↑ss.length, Value.int IntKind.i64 ↑ss.length, Value.bool false, u22, u23, u24, u25, u26, u27, Value.pointer (some { block := w.heap.size, off := 1 }), Value.slice bo ws.length cbp, Value.func (Fn.func 82) #[] #[Value.pointer (some { block := w.heap.size + 1 + 1, off := 0 })], .int .i64 x.1, .agg #[.int .i64 x.2.1, .string x.2.2], undef, undef, undef, undef, undef, undef, undef, undef, undef, undef], defers := [] })
            (fun x a' _ X Y row hs hg hr => by obtain ⟨Bx, h1, h2, h3⟩ := hs; exact ⟨Bx, h1, cells_own h2 hg (fun r e => (hr r e).2), h3⟩)
            ?assign ?body ?done ?stop
          case assign =>
            rintro l pre x W K ⟨⟨hp, bR1⟩, hB1⟩ hK
            dsimp only [enc2]
            gi_wp2
            exact hK _ _ ((KeepsOthers.alloc _ _).from _) ((Below.refl _ W).alloc hB1.size _) ⟨⟨hp, bR1.alloc _⟩, hB1.alloc hB1.size _⟩ ⟨W.heap.size, bR1.lt, World.alloc_heap_new W _, rfl⟩
          case body =>
            rintro l pre ⟨i, s1, s2⟩ a' W hl ⟨r, hr⟩ ⟨⟨hp, bR1⟩, hB1⟩ ⟨Bx, hBx, bX, rfl⟩ hlt
            dsimp only at bX ⊢
            have cX0 : W.cell? ⟨Bx, 0, none⟩ = some (.int .i64 s1) := by simp [World.cell?, bX]
            have cX1 : W.cell? ⟨Bx, 1, none⟩ = some (.string s2) := by simp [World.cell?, bX]
            have cR := bR1.cell
            have fR := bR1.frozen
            clear bX
            gi_wp2_with (fail)
            refine ⟨trivial, (CallsIn.inRound l (callsIn_wide.2 (isSector_any _ _))).mono ?_⟩
            rintro e w' ⟨rfl, rfl⟩
            have hS := okW_split s1 s2
            have HS : Hid (okW (s1, s2) = (okN s1 && okS s2)) := hS
            clear hS
            cases hN : okN s1
            · have HN : Hid (okN s1 = false) := hN
              clear hN
              gi_wp2
              refine ⟨trivial, ?_⟩
              gi_wp2
              exact ⟨(KeepsOthers.setCell _ _ _).from _, ⟨⟨⟨rfl, (i, s1, s2), by simp, by rw [HS.out, HN.out]; rfl⟩, bR1.set _⟩, hB1.setCell (p := ⟨w.heap.size + 1, 0, none⟩) (by simp) _⟩⟩
            · have HN : Hid (okN s1 = true) := hN
              clear hN
              gi_wp2_with (fail)
              refine ⟨trivial, (CallsIn.inRound l (callsIn_wide.2 (fitsSector_any _ _))).mono ?_⟩
              rintro e w' ⟨rfl, rfl⟩
              cases hT : okS s2
              · have HT : Hid (okS s2 = false) := hT
                clear hT
                gi_wp2
                exact ⟨(KeepsOthers.setCell _ _ _).from _, ⟨⟨⟨rfl, (i, s1, s2), by simp, by rw [HS.out, HN.out, HT.out]; rfl⟩, bR1.set _⟩, hB1.setCell (p := ⟨w.heap.size + 1, 0, none⟩) (by simp) _⟩⟩
              · have HT : Hid (okS s2 = true) := hT
                clear hT
                gi_wp2
                exact ⟨KeepsFrom.refl _ _, Below.refl _ _, ⟨⟨fun x hx => (List.mem_append.1 hx).elim (hp x) (fun e => by simp at e; subst e; rw [HS.out, HN.out, HT.out]; rfl), bR1⟩, hB1⟩⟩
          case done =>
            rintro D ys W hD rfl ⟨⟨hp, bR1⟩, hB1⟩ hK
            have cR := bR1.cell
            have fR := bR1.frozen
            gi_wp2
            have hK' := (KeepsOthers.setCell W ⟨w.heap.size + 1, 0, none⟩ (.bool true)).same D _ hK rfl
            refine ⟨by simp, .inl ⟨_, _, rfl, run_takeDeferred hK', ?_⟩⟩
            have hc5 := cell_kept (World.cell?_setCell_same' W ⟨w.heap.size + 1, 0, none⟩ (.bool true) (by rw [cR]; rfl)) (grownBy_putObj' _ D (.deferred none)) (fun r e => by cases e; exact ⟨_, hK', rfl⟩)
            refine ⟨.bool true, ?_, ret_bool (okD_yes H64.out h200 hall.out (num_all hp)).symm, (hB1.setCell (p := ⟨w.heap.size + 1, 0, none⟩) (by simp) _).trans (belowK_b (w := w) (Nat.le_refl _) _ D _ _ (by omega) hK' rfl rfl)⟩
            simp [results, Tryz.f51, go_sem, hc5]
          case stop =>
            rintro D c pre W hD hpre ⟨⟨⟨rfl, hx⟩, bR1⟩, hB1⟩ hK
            have cR := bR1.cell
            have fR := bR1.frozen
            gi_wp2
            refine ⟨by simp, .inl ⟨_, _, rfl, run_takeDeferred hK, ?_⟩⟩
            have hc5 := cell_kept cR (grownBy_putObj' _ D (.deferred none)) (fun r e => by cases e; exact ⟨_, hK, rfl⟩)
            refine ⟨.bool false, ?_, ret_bool (num_bad hpre hx).symm, hB1.trans (belowK_b (w := w) (Nat.le_refl _) W D _ _ (by omega) hK rfl rfl)⟩
            simp [results, Tryz.f51, go_sem, hc5]
    · have t2 : decide ((200 : Int) < (ws.length : Int)) = true := by simp; omega
      go_enter Tryz.func51, Tryz.ntmps51
      go_wp2
      exact bodyPost_ret (v := .bool false) (by simp [results, Tryz.results51, go_sem]) rfl ⟨ret_bool (okD_late h200).symm, hb0⟩
  · have t1 : ((ss.length : Int) != 64) = true := by simp; omega
    go_enter Tryz.func51, Tryz.ntmps51
    go_wp2
    exact bodyPost_ret (v := .bool false) (by simp [results, Tryz.results51, go_sem]) rfl ⟨ret_bool (okD_len h64).symm, hb0⟩

end Go.Proofs.YtjclpbaiiklhcaaGreatDoor.Disk

/- toDisk once more: its slice of sectors has no spare room. -/
namespace Go.Proofs.YtjclpbaiiklhcaaGreatDoor.Disk
open Go.RowKit



end Go.Proofs.YtjclpbaiiklhcaaGreatDoor.Disk

/- szStringS, szWrite, szWriteS, szDisk: each answers a number, and makes memory of its own alone. -/
namespace Go.Proofs.YtjclpbaiiklhcaaGreatDoor.Disk
open Go.RowKit





end Go.Proofs.YtjclpbaiiklhcaaGreatDoor.Disk

/- A disk that came in as an argument: its sectors and late writes, and that they are not too many for any machine. -/
namespace Go.Proofs.YtjclpbaiiklhcaaGreatDoor.Disk
open Go.ChangeShapes Go.WideShapes Go.ChangeAt Go.RowKit Go.Joins Go.Deep

theorem own : ownKnob Tryz.prog.godebug = none := by kernel_rfl
theorem laidOut : laidOutB Tryz.prog = true := by kernel_rfl
theorem Tryz.cells9 : Tryz.prog.cellsOf 9 = 1 := by kernel_rfl
theorem Tryz.cells2 : Tryz.prog.cellsOf 2 = 1 := by kernel_rfl
theorem Tryz.bytes9 : Tryz.prog.bytesOf 9 = 16 := by kernel_rfl
theorem add_eq (b o i : Nat) : (⟨b, o, none⟩ : Addr).add i = ⟨b, o + i, none⟩ := by
  unfold Addr.add
  by_cases h : i = 0
  · simp [h]
  · simp [h]

theorem spotless {w : World} {a : Addr} {v : Value} (h : w.cell? (a.add 0) = some v) : ∃ b o, a = ⟨b, o, none⟩ := by
  obtain ⟨b, o, s⟩ := a
  have : s = none := by simpa [Addr.add] using World.cell?_spot h
  exact ⟨b, o, by rw [this]⟩

theorem getD_map_range {α : Type} (f : Nat → α) (n i : Nat) (d : α) (h : i < n) : ((List.range n).map f).getD i d = f i := by
  simp [h]

end Go.Proofs.YtjclpbaiiklhcaaGreatDoor.Disk
