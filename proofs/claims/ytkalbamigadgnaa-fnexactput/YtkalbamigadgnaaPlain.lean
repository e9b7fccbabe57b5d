/- Plain facts on lists, numbers and worlds that the walks of this seat use; nothing of the program. -/
import Derived.WalkKit
import Derived.WalkSpells
import Derived.WalkLawsBesides
import Derived.Deep.OwnRows
namespace Go.Proofs.Ytkalbamigadgnaa
open Go.RowKit

theorem ret_str {a b : ByteArray} (h : a = b) : Ending.returned (.string a) = .returned (.string b) := by rw [h]
theorem ret_int {k : IntKind} {a b : Int} (h : a = b) : Ending.returned (.int k a) = .returned (.int k b) := by rw [h]
theorem ret_bool {a b : Bool} (h : a = b) : Ending.returned (.bool a) = .returned (.bool b) := by rw [h]

def digs : Nat → Nat → List UInt8 → List UInt8
  | 0, _, acc => acc
  | f + 1, n, acc => if n = 0 then acc else digs f (n / 10) ((48 + UInt8.ofNat (n % 10)) :: acc)

def mtext (k : Int) : ByteArray := if k ≤ 0 then ⟨#[109, 48]⟩ else ⟨(109 :: digs k.toNat k.toNat []).toArray⟩

theorem digs_zero (f : Nat) (acc : List UInt8) : digs f 0 acc = acc := by
  cases f <;> simp [digs]

theorem digs_step (f n : Nat) (s : ByteArray) (hn : 0 < n) (hf : n ≤ f) :
    digs (f - 1) (n / 10) (({ data := #[48 + UInt8.ofNat (n % 10)] } ++ s : ByteArray).data.toList) = digs f n s.data.toList := by
  obtain ⟨g, rfl⟩ : ∃ g, f = g + 1 := ⟨f - 1, by omega⟩
  rw [digs, if_neg (by omega), Nat.add_sub_cancel]
  simp

theorem digs_end (k : Int) (f n : Nat) (s : ByteArray) (hk : 0 < k) (hn : ¬ 0 < n) (hd : digs f n s.data.toList = digs k.toNat k.toNat []) : ({ data := #[109] } ++ s : ByteArray) = mtext k := by
  obtain rfl : n = 0 := by omega
  rw [digs_zero] at hd
  unfold mtext
  rw [if_neg (by omega), ← hd]
  apply ByteArray.ext
  simp

theorem str_ne {s t : ByteArray} (h : (!s.toList == t.toList) = true) : s ≠ t := by
  rintro rfl
  simp at h

theorem str_eq {s t : ByteArray} (h : (!s.toList == t.toList) = false) : s = t := by
  simp at h
  rw [ByteArray.toList_eq, ByteArray.toList_eq] at h
  exact ByteArray.ext (Array.toList_inj.1 h)

/-- All cells and marks that were there before read as before: two rules for the walk. -/
theorem bcell {W w1 : World} (hb : Below W.heap.size W w1) : (∀ b o, b < W.heap.size → w1.cell? ⟨b, o, none⟩ = W.cell? ⟨b, o, none⟩) ∧ (∀ b o, b < W.heap.size → w1.frozen? ⟨b, o, none⟩ = W.frozen? ⟨b, o, none⟩) :=
  ⟨fun b o h => hb.cell (p := ⟨b, o, none⟩) h, fun b o h => hb.frozen (p := ⟨b, o, none⟩) h⟩

theorem bel_two (w : World) (o1 o2 : Obj) : Below w.heap.size w ((w.alloc o1).alloc o2) := ((Below.refl _ _).alloc (Nat.le_refl _) _).alloc (by simp) _

theorem bel_then {B : Nat} {w a b : World} (h : Below B w a) (hB : B ≤ a.heap.size) (k : Below a.heap.size a b) : Below B w b := h.trans (k.mono hB)

/-- The texts that a slice reads as. -/
def SR (w : World) (v : Value) (ss : List ByteArray) : Prop :=
  ∃ ao cap, v = .slice ao ss.length cap ∧ ∀ i, i < ss.length → ∃ b o, ao = some ⟨b, o, none⟩ ∧ w.cell? ⟨b, o + i, none⟩ = some (.string (ss.getD i ByteArray.empty))

abbrev Wr := Int × ByteArray
def wr0 : Wr := (0, ByteArray.empty)

/-- The writes that a slice reads as. -/
def WR (w : World) (v : Value) (ws : List Wr) : Prop :=
  ∃ ao cap, v = .slice ao ws.length cap ∧ ∀ i, i < ws.length → ∃ b o, ao = some ⟨b, o, none⟩ ∧ w.cell? ⟨b, o + i * 2, none⟩ = some (.int .i64 (ws.getD i wr0).1) ∧ w.cell? ⟨b, o + i * 2 + 1, none⟩ = some (.string (ws.getD i wr0).2)

theorem SR.later {w w' : World} {v : Value} {ss : List ByteArray} (h : SR w v ss) (hb : Below w.heap.size w w') : SR w' v ss := by
  obtain ⟨ao, cap, rfl, h⟩ := h
  exact ⟨ao, cap, rfl, fun i hi => by obtain ⟨b, o, e, hc⟩ := h i hi; exact ⟨b, o, e, cell_later hb hc⟩⟩

theorem WR.later {w w' : World} {v : Value} {ws : List Wr} (h : WR w v ws) (hb : Below w.heap.size w w') : WR w' v ws := by
  obtain ⟨ao, cap, rfl, h⟩ := h
  exact ⟨ao, cap, rfl, fun i hi => by obtain ⟨b, o, e, hc, hd⟩ := h i hi; exact ⟨b, o, e, cell_later hb hc, cell_later hb hd⟩⟩

theorem lists_eq {ss tt : List ByteArray} (hl : ss.length = tt.length) (h : ∀ j, j < ss.length → ss.getD j ByteArray.empty = tt.getD j ByteArray.empty) : ss = tt := by
  refine List.ext_getElem hl fun i h1 h2 => ?_
  have := h i h1
  simpa [List.getD_eq_getElem?_getD, h1, h2] using this

theorem wlists_eq {ss tt : List Wr} (hl : ss.length = tt.length) (h : ∀ j, j < ss.length → ss.getD j wr0 = tt.getD j wr0) : ss = tt := by
  refine List.ext_getElem hl fun i h1 h2 => ?_
  have := h i h1
  simpa [List.getD_eq_getElem?_getD, h1, h2] using this

theorem all_upto {p : Nat → Prop} {k : Nat} (h : ∀ j, j < k → p j) (hk : p k) : ∀ j, j < k + 1 → p j := fun j hj => by
  by_cases e : j = k
  · subst e; exact hk
  · exact h j (by omega)

theorem grown_trans {a w w' : World} {row : Option Nat} (h : a.grownBy w row) (k : w.grownBy w' row) : a.grownBy w' row :=
  ⟨k.os.trans h.os, k.tape.trans h.tape, k.output.trans h.output, Nat.le_trans h.size k.size, fun i hi hr => (k.block i (Nat.lt_of_lt_of_le hi h.size) hr).trans (h.block i hi hr)⟩

theorem grown_below {w w' : World} {row : Option Nat} (h : Below w.heap.size w w') : w.grownBy w' row :=
  ⟨h.os, h.tape, h.output, h.size, fun k hk _ => h.block k hk⟩

theorem grown_set (w : World) (b i : Nat) (v : Value) : w.grownBy (w.setCell ⟨b, i, none⟩ v) (some b) :=
  ⟨rfl, rfl, rfl, by simp [World.setCell], fun k _ hr => Below.heap_setCell _ _ _ _ (fun e => hr (by rw [e]))⟩

theorem SR.grown {w w' : World} {v : Value} {ss : List ByteArray} {row : Option Nat} (h : SR w v ss) (hg : w.grownBy w' row) (hne : ss = [] ∨ v.ownBlock ≠ row) : SR w' v ss := by
  obtain ⟨ao, cap, rfl, h⟩ := h
  refine ⟨ao, cap, rfl, fun i hi => ?_⟩
  obtain ⟨b, o, rfl, hc⟩ := h i hi
  rcases hne with rfl | hne
  · simp at hi
  · exact ⟨b, o, rfl, hg.cell hc hne⟩

theorem WR.grown {w w' : World} {v : Value} {ws : List Wr} {row : Option Nat} (h : WR w v ws) (hg : w.grownBy w' row) (hne : ws = [] ∨ v.ownBlock ≠ row) : WR w' v ws := by
  obtain ⟨ao, cap, rfl, h⟩ := h
  refine ⟨ao, cap, rfl, fun i hi => ?_⟩
  obtain ⟨b, o, rfl, hc, hd⟩ := h i hi
  rcases hne with rfl | hne
  · simp at hi
  · exact ⟨b, o, rfl, hg.cell hc hne, hg.cell hd hne⟩

/-- A slice of n elements of 'size' cells each that has a row of its own, all of which may be written. -/
def OS (w : World) (t size : Nat) (v : Value) (n : Nat) : Prop :=
  ∃ ao cap, v = .slice ao n cap ∧ (n = 0 ∨ ∃ b N f, ao = some ⟨b, 0, none⟩ ∧ n * size ≤ N ∧ w.rowIs b t N f)

theorem OS.later {w w' : World} {t size : Nat} {v : Value} {n : Nat} (h : OS w t size v n) (hb : Below w.heap.size w w') : OS w' t size v n := by
  obtain ⟨ao, cap, rfl, h⟩ := h
  refine ⟨ao, cap, rfl, ?_⟩
  rcases h with h | ⟨b, N, f, rfl, hN, hr⟩
  · exact .inl h
  · exact .inr ⟨b, N, f, rfl, hN, hr.of_block (hb.block b hr.lt)⟩

theorem OS.grown {w w' : World} {t size : Nat} {v : Value} {n : Nat} {row : Option Nat} (h : OS w t size v n) (hg : w.grownBy w' row) (hne : n = 0 ∨ v.ownBlock ≠ row) : OS w' t size v n := by
  obtain ⟨ao, cap, rfl, h⟩ := h
  refine ⟨ao, cap, rfl, ?_⟩
  rcases h with h | ⟨b, N, f, rfl, hN, hr⟩
  · exact .inl h
  · rcases hne with h | hne
    · exact .inl h
    · exact .inr ⟨b, N, f, rfl, hN, hr.of_block (hg.block b hr.lt hne)⟩

def marks (k : Int) (n : Nat) : List ByteArray := (List.range n).map fun i : Nat => mtext (k + i)
def wmarks (k : Int) (n : Nat) : List Wr := (List.range n).map fun i : Nat => (k + 2 * i, mtext (k + 2 * i + 1))
theorem marks_length (k : Int) (n : Nat) : (marks k n).length = n := by simp [marks]
theorem wmarks_length (k : Int) (n : Nat) : (wmarks k n).length = n := by simp [wmarks]
theorem marks_get (k : Int) (n i : Nat) (h : i < n) : (marks k n).getD i ByteArray.empty = mtext (k + i) := by simp [marks, h]
theorem wmarks_get (k : Int) (n i : Nat) (h : i < n) : (wmarks k n).getD i wr0 = (k + 2 * i, mtext (k + 2 * i + 1)) := by simp [wmarks, h]

/-- w' is w with new blocks, and with writes to two rows alone. -/
structure Two (w w' : World) (r1 r2 : Option Nat) : Prop where
  os : w'.os = w.os
  tape : w'.tape = w.tape
  output : w'.output = w.output
  size : w.heap.size ≤ w'.heap.size
  block : ∀ k, k < w.heap.size → some k ≠ r1 → some k ≠ r2 → w'.heap[k]? = w.heap[k]?

theorem Two.mk' {w a b c : World} {r1 r2 : Option Nat} (h0 : Below w.heap.size w a) (h1 : a.grownBy b r1) (h2 : b.grownBy c r2) : Two w c r1 r2 :=
  ⟨h2.os.trans (h1.os.trans h0.os), h2.tape.trans (h1.tape.trans h0.tape), h2.output.trans (h1.output.trans h0.output), Nat.le_trans h0.size (Nat.le_trans h1.size h2.size),
    fun k hk e1 e2 => (h2.block k (Nat.lt_of_lt_of_le hk (Nat.le_trans h0.size h1.size)) e2).trans ((h1.block k (Nat.lt_of_lt_of_le hk h0.size) e1).trans (h0.block k hk))⟩

theorem Two.below {w w' : World} {r1 r2 : Option Nat} {B : Nat} (h : Two w w' r1 r2) (hB : B ≤ w.heap.size) (h1 : ∀ k, r1 = some k → B ≤ k) (h2 : ∀ k, r2 = some k → B ≤ k) : Below B w w' :=
  ⟨h.os, h.tape, h.output, h.size, fun k hk => h.block k (by omega) (fun e => by have := h1 k e.symm; omega) (fun e => by have := h2 k e.symm; omega)⟩

/-- The row that is written where n elements of v are: none where there is nothing to write. -/
def rowOf (v : Value) (n : Nat) : Option Nat := if n = 0 then none else v.ownBlock

theorem OS.row {w : World} {t size : Nat} {v : Value} {n : Nat} (h : OS w t size v n) : ∀ b, rowOf v n = some b → b < w.heap.size := by
  intro b e
  obtain ⟨ao, cap, rfl, h⟩ := h
  rcases h with rfl | ⟨b', N, f, rfl, hN, hr⟩
  · simp [rowOf] at e
  · have := hr.lt
    unfold rowOf at e
    by_cases hn : n = 0
    · simp [hn] at e
    · simp [hn, Value.ownBlock] at e
      omega

theorem OS.apart {w : World} {t1 t2 s1 s2 : Nat} {v1 v2 : Value} {n m : Nat} (ht : t1 ≠ t2) (h1 : OS w t1 s1 v1 n) (h2 : OS w t2 s2 v2 m) : n = 0 ∨ v1.ownBlock ≠ rowOf v2 m := by
  obtain ⟨ao, cap, rfl, h1⟩ := h1
  obtain ⟨bo, cbp, rfl, h2⟩ := h2
  rcases h1 with h1 | ⟨b, N, f, rfl, hN, hr⟩
  · exact .inl h1
  · refine .inr fun e => ?_
    rcases h2 with rfl | ⟨b', N', f', rfl, hN', hr'⟩
    · simp [rowOf, Value.ownBlock] at e
    · unfold rowOf at e
      by_cases hm : m = 0
      · simp [hm, Value.ownBlock] at e
      · obtain rfl : b = b' := by simpa [hm, Value.ownBlock] using e
        obtain ⟨c, hc, _⟩ := hr
        obtain ⟨c', hc', _⟩ := hr'
        rw [hc] at hc'
        simp at hc'
        exact ht hc'.2

theorem Two.cell {w w' : World} {r1 r2 : Option Nat} (h : Two w w' r1 r2) {b o : Nat} {v : Value} (hc : w.cell? ⟨b, o, none⟩ = some v) (h1 : some b ≠ r1) (h2 : some b ≠ r2) : w'.cell? ⟨b, o, none⟩ = some v :=
  (World.cell?_of_block (w := w) (h.block b (World.block_lt_of_cell? _ _ hc) h1 h2)).trans hc

theorem row_ne {r : Option Nat} {c b : Nat} (h : ∀ b, r = some b → b < c) (hb : c ≤ b) : some b ≠ r := fun e => by
  have := h b e.symm
  omega

theorem row_ne' {r : Option Nat} {c b : Nat} (h : ∀ b, r = some b → c ≤ b) (hb : b < c) : some b ≠ r := fun e => by
  have := h b e.symm
  omega

theorem bel_one (w : World) (o : Obj) : Below w.heap.size w (w.alloc o) := (Below.refl _ _).alloc (Nat.le_refl _) _

end Go.Proofs.Ytkalbamigadgnaa
