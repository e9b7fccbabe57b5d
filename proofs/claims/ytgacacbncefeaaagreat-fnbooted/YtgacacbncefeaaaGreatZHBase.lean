/- Plain facts on lists, numbers and worlds that the walks of this seat use; nothing of the program. -/
import Derived.WalkKit
import Derived.WalkSpells
import Derived.WalkLawsBesides
import Derived.Deep.OwnRows
import Derived.Test.YtgacacbncefeaaaGreatRows
import Derived.Deep.RegionWith
import Derived.Shelf.Abstract
import Derived.OwnWalkIn
import Derived.TacticsInMore
import Derived.LoopNIn
import Derived.LoopIn
import Derived.ProofKit
import Derived.OpenShut
import Derived.SizedLaws
import Derived.Lib.SmallJoins
import Derived.Deep.Strs
import Derived.Deep.SlicePairs
import Derived.Laws.AppendOwn
import Derived.Deep.RegionHeld3
namespace Go.Proofs.YtgacacbncefeaaaGreat.Disk
open Go.RowKit

theorem ret_str {a b : ByteArray} (h : a = b) : Ending.returned (.string a) = .returned (.string b) := by rw [h]
theorem ret_int {k : IntKind} {a b : Int} (h : a = b) : Ending.returned (.int k a) = .returned (.int k b) := by rw [h]
theorem ret_bool {a b : Bool} (h : a = b) : Ending.returned (.bool a) = .returned (.bool b) := by rw [h]

def digs : Nat → Nat → List UInt8 → List UInt8
  | 0, _, acc => acc
  | f + 1, n, acc => if n = 0 then acc else digs f (n / 10) ((48 + UInt8.ofNat (n % 10)) :: acc)

def mtext (k : Int) : ByteArray := if k ≤ 0 then ⟨#[109, 48]⟩ else ⟨(109 :: digs k.toNat k.toNat []).toArray⟩

theorem digs_zero (f : Nat) (acc : List UInt8) : digs f 0 acc = acc := by
  cases f <;> simp [digs]

theorem digs_step (f n : Nat) (s : ByteArray) (hn : 0 < n) (hf : n ≤ f) :
    digs (f - 1) (n / 10) (({ data := #[48 + UInt8.ofNat (n % 10)] } ++ s : ByteArray).data.toList) = digs f n s.data.toList := by
  obtain ⟨g, rfl⟩ : ∃ g, f = g + 1 := ⟨f - 1, by omega⟩
  rw [digs, if_neg (by omega), Nat.add_sub_cancel]
  simp

theorem digs_end (k : Int) (f n : Nat) (s : ByteArray) (hk : 0 < k) (hn : ¬ 0 < n) (hd : digs f n s.data.toList = digs k.toNat k.toNat []) : ({ data := #[109] } ++ s : ByteArray) = mtext k := by
  obtain rfl : n = 0 := by omega
  rw [digs_zero] at hd
  unfold mtext
  rw [if_neg (by omega), ← hd]
  apply ByteArray.ext
  simp

theorem str_ne {s t : ByteArray} (h : (!s.toList == t.toList) = true) : s ≠ t := by
  rintro rfl
  simp at h

theorem str_eq {s t : ByteArray} (h : (!s.toList == t.toList) = false) : s = t := by
  simp at h
  rw [ByteArray.toList_eq, ByteArray.toList_eq] at h
  exact ByteArray.ext (Array.toList_inj.1 h)

/-- All cells and marks that were there before read as before: two rules for the walk. -/
theorem bcell {W w1 : World} (hb : Below W.heap.size W w1) : (∀ b o, b < W.heap.size → w1.cell? ⟨b, o, none⟩ = W.cell? ⟨b, o, none⟩) ∧ (∀ b o, b < W.heap.size → w1.frozen? ⟨b, o, none⟩ = W.frozen? ⟨b, o, none⟩) :=
  ⟨fun b o h => hb.cell (p := ⟨b, o, none⟩) h, fun b o h => hb.frozen (p := ⟨b, o, none⟩) h⟩

theorem bel_two (w : World) (o1 o2 : Obj) : Below w.heap.size w ((w.alloc o1).alloc o2) := ((Below.refl _ _).alloc (Nat.le_refl _) _).alloc (by simp) _

theorem bel_then {B : Nat} {w a b : World} (h : Below B w a) (hB : B ≤ a.heap.size) (k : Below a.heap.size a b) : Below B w b := h.trans (k.mono hB)

/-- The texts that a slice reads as. -/
def SR (w : World) (v : Value) (ss : List ByteArray) : Prop :=
  ∃ ao cap, v = .slice ao ss.length cap ∧ ∀ i, i < ss.length → ∃ b o, ao = some ⟨b, o, none⟩ ∧ w.cell? ⟨b, o + i, none⟩ = some (.string (ss.getD i ByteArray.empty))

abbrev Wr := Int × ByteArray
def wr0 : Wr := (0, ByteArray.empty)

/-- The writes that a slice reads as. -/
def WR (w : World) (v : Value) (ws : List Wr) : Prop :=
  ∃ ao cap, v = .slice ao ws.length cap ∧ ∀ i, i < ws.length → ∃ b o, ao = some ⟨b, o, none⟩ ∧ w.cell? ⟨b, o + i * 2, none⟩ = some (.int .i64 (ws.getD i wr0).1) ∧ w.cell? ⟨b, o + i * 2 + 1, none⟩ = some (.string (ws.getD i wr0).2)

theorem SR.later {w w' : World} {v : Value} {ss : List ByteArray} (h : SR w v ss) (hb : Below w.heap.size w w') : SR w' v ss := by
  obtain ⟨ao, cap, rfl, h⟩ := h
  exact ⟨ao, cap, rfl, fun i hi => by obtain ⟨b, o, e, hc⟩ := h i hi; exact ⟨b, o, e, cell_later hb hc⟩⟩

theorem WR.later {w w' : World} {v : Value} {ws : List Wr} (h : WR w v ws) (hb : Below w.heap.size w w') : WR w' v ws := by
  obtain ⟨ao, cap, rfl, h⟩ := h
  exact ⟨ao, cap, rfl, fun i hi => by obtain ⟨b, o, e, hc, hd⟩ := h i hi; exact ⟨b, o, e, cell_later hb hc, cell_later hb hd⟩⟩

theorem lists_eq {ss tt : List ByteArray} (hl : ss.length = tt.length) (h : ∀ j, j < ss.length → ss.getD j ByteArray.empty = tt.getD j ByteArray.empty) : ss = tt := by
  refine List.ext_getElem hl fun i h1 h2 => ?_
  have := h i h1
  simpa [List.getD_eq_getElem?_getD, h1, h2] using this

theorem wlists_eq {ss tt : List Wr} (hl : ss.length = tt.length) (h : ∀ j, j < ss.length → ss.getD j wr0 = tt.getD j wr0) : ss = tt := by
  refine List.ext_getElem hl fun i h1 h2 => ?_
  have := h i h1
  simpa [List.getD_eq_getElem?_getD, h1, h2] using this

theorem all_upto {p : Nat → Prop} {k : Nat} (h : ∀ j, j < k → p j) (hk : p k) : ∀ j, j < k + 1 → p j := fun j hj => by
  by_cases e : j = k
  · subst e; exact hk
  · exact h j (by omega)

theorem grown_trans {a w w' : World} {row : Option Nat} (h : a.grownBy w row) (k : w.grownBy w' row) : a.grownBy w' row :=
  ⟨k.os.trans h.os, k.tape.trans h.tape, k.output.trans h.output, Nat.le_trans h.size k.size, fun i hi hr => (k.block i (Nat.lt_of_lt_of_le hi h.size) hr).trans (h.block i hi hr)⟩

theorem grown_below {w w' : World} {row : Option Nat} (h : Below w.heap.size w w') : w.grownBy w' row :=
  ⟨h.os, h.tape, h.output, h.size, fun k hk _ => h.block k hk⟩

theorem grown_set (w : World) (b i : Nat) (v : Value) : w.grownBy (w.setCell ⟨b, i, none⟩ v) (some b) :=
  ⟨rfl, rfl, rfl, by simp [World.setCell], fun k _ hr => Below.heap_setCell _ _ _ _ (fun e => hr (by rw [e]))⟩

theorem SR.grown {w w' : World} {v : Value} {ss : List ByteArray} {row : Option Nat} (h : SR w v ss) (hg : w.grownBy w' row) (hne : ss = [] ∨ v.ownBlock ≠ row) : SR w' v ss := by
  obtain ⟨ao, cap, rfl, h⟩ := h
  refine ⟨ao, cap, rfl, fun i hi => ?_⟩
  obtain ⟨b, o, rfl, hc⟩ := h i hi
  rcases hne with rfl | hne
  · simp at hi
  · exact ⟨b, o, rfl, hg.cell hc hne⟩

theorem WR.grown {w w' : World} {v : Value} {ws : List Wr} {row : Option Nat} (h : WR w v ws) (hg : w.grownBy w' row) (hne : ws = [] ∨ v.ownBlock ≠ row) : WR w' v ws := by
  obtain ⟨ao, cap, rfl, h⟩ := h
  refine ⟨ao, cap, rfl, fun i hi => ?_⟩
  obtain ⟨b, o, rfl, hc, hd⟩ := h i hi
  rcases hne with rfl | hne
  · simp at hi
  · exact ⟨b, o, rfl, hg.cell hc hne, hg.cell hd hne⟩

/-- A slice of n elements of 'size' cells each that has a row of its own, all of which may be written. -/
def OS (w : World) (t size : Nat) (v : Value) (n : Nat) : Prop :=
  ∃ ao cap, v = .slice ao n cap ∧ (n = 0 ∨ ∃ b N f, ao = some ⟨b, 0, none⟩ ∧ n * size ≤ N ∧ w.rowIs b t N f)

theorem OS.later {w w' : World} {t size : Nat} {v : Value} {n : Nat} (h : OS w t size v n) (hb : Below w.heap.size w w') : OS w' t size v n := by
  obtain ⟨ao, cap, rfl, h⟩ := h
  refine ⟨ao, cap, rfl, ?_⟩
  rcases h with h | ⟨b, N, f, rfl, hN, hr⟩
  · exact .inl h
  · exact .inr ⟨b, N, f, rfl, hN, hr.of_block (hb.block b hr.lt)⟩

theorem OS.grown {w w' : World} {t size : Nat} {v : Value} {n : Nat} {row : Option Nat} (h : OS w t size v n) (hg : w.grownBy w' row) (hne : n = 0 ∨ v.ownBlock ≠ row) : OS w' t size v n := by
  obtain ⟨ao, cap, rfl, h⟩ := h
  refine ⟨ao, cap, rfl, ?_⟩
  rcases h with h | ⟨b, N, f, rfl, hN, hr⟩
  · exact .inl h
  · rcases hne with h | hne
    · exact .inl h
    · exact .inr ⟨b, N, f, rfl, hN, hr.of_block (hg.block b hr.lt hne)⟩

def marks (k : Int) (n : Nat) : List ByteArray := (List.range n).map fun i : Nat => mtext (k + i)
def wmarks (k : Int) (n : Nat) : List Wr := (List.range n).map fun i : Nat => (k + 2 * i, mtext (k + 2 * i + 1))
theorem marks_length (k : Int) (n : Nat) : (marks k n).length = n := by simp [marks]
theorem wmarks_length (k : Int) (n : Nat) : (wmarks k n).length = n := by simp [wmarks]
theorem marks_get (k : Int) (n i : Nat) (h : i < n) : (marks k n).getD i ByteArray.empty = mtext (k + i) := by simp [marks, h]
theorem wmarks_get (k : Int) (n i : Nat) (h : i < n) : (wmarks k n).getD i wr0 = (k + 2 * i, mtext (k + 2 * i + 1)) := by simp [wmarks, h]

/-- w' is w with new blocks, and with writes to two rows alone. -/
structure Two (w w' : World) (r1 r2 : Option Nat) : Prop where
  os : w'.os = w.os
  tape : w'.tape = w.tape
  output : w'.output = w.output
  size : w.heap.size ≤ w'.heap.size
  block : ∀ k, k < w.heap.size → some k ≠ r1 → some k ≠ r2 → w'.heap[k]? = w.heap[k]?

theorem Two.mk' {w a b c : World} {r1 r2 : Option Nat} (h0 : Below w.heap.size w a) (h1 : a.grownBy b r1) (h2 : b.grownBy c r2) : Two w c r1 r2 :=
  ⟨h2.os.trans (h1.os.trans h0.os), h2.tape.trans (h1.tape.trans h0.tape), h2.output.trans (h1.output.trans h0.output), Nat.le_trans h0.size (Nat.le_trans h1.size h2.size),
    fun k hk e1 e2 => (h2.block k (Nat.lt_of_lt_of_le hk (Nat.le_trans h0.size h1.size)) e2).trans ((h1.block k (Nat.lt_of_lt_of_le hk h0.size) e1).trans (h0.block k hk))⟩

theorem Two.below {w w' : World} {r1 r2 : Option Nat} {B : Nat} (h : Two w w' r1 r2) (hB : B ≤ w.heap.size) (h1 : ∀ k, r1 = some k → B ≤ k) (h2 : ∀ k, r2 = some k → B ≤ k) : Below B w w' :=
  ⟨h.os, h.tape, h.output, h.size, fun k hk => h.block k (by omega) (fun e => by have := h1 k e.symm; omega) (fun e => by have := h2 k e.symm; omega)⟩

/-- The row that is written where n elements of v are: none where there is nothing to write. -/
def rowOf (v : Value) (n : Nat) : Option Nat := if n = 0 then none else v.ownBlock

theorem OS.row {w : World} {t size : Nat} {v : Value} {n : Nat} (h : OS w t size v n) : ∀ b, rowOf v n = some b → b < w.heap.size := by
  intro b e
  obtain ⟨ao, cap, rfl, h⟩ := h
  rcases h with rfl | ⟨b', N, f, rfl, hN, hr⟩
  · simp [rowOf] at e
  · have := hr.lt
    unfold rowOf at e
    by_cases hn : n = 0
    · simp [hn] at e
    · simp [hn, Value.ownBlock] at e
      omega

theorem OS.apart {w : World} {t1 t2 s1 s2 : Nat} {v1 v2 : Value} {n m : Nat} (ht : t1 ≠ t2) (h1 : OS w t1 s1 v1 n) (h2 : OS w t2 s2 v2 m) : n = 0 ∨ v1.ownBlock ≠ rowOf v2 m := by
  obtain ⟨ao, cap, rfl, h1⟩ := h1
  obtain ⟨bo, cbp, rfl, h2⟩ := h2
  rcases h1 with h1 | ⟨b, N, f, rfl, hN, hr⟩
  · exact .inl h1
  · refine .inr fun e => ?_
    rcases h2 with rfl | ⟨b', N', f', rfl, hN', hr'⟩
    · simp [rowOf, Value.ownBlock] at e
    · unfold rowOf at e
      by_cases hm : m = 0
      · simp [hm, Value.ownBlock] at e
      · obtain rfl : b = b' := by simpa [hm, Value.ownBlock] using e
        obtain ⟨c, hc, _⟩ := hr
        obtain ⟨c', hc', _⟩ := hr'
        rw [hc] at hc'
        simp at hc'
        exact ht hc'.2

theorem Two.cell {w w' : World} {r1 r2 : Option Nat} (h : Two w w' r1 r2) {b o : Nat} {v : Value} (hc : w.cell? ⟨b, o, none⟩ = some v) (h1 : some b ≠ r1) (h2 : some b ≠ r2) : w'.cell? ⟨b, o, none⟩ = some v :=
  (World.cell?_of_block (w := w) (h.block b (World.block_lt_of_cell? _ _ hc) h1 h2)).trans hc

theorem row_ne {r : Option Nat} {c b : Nat} (h : ∀ b, r = some b → b < c) (hb : c ≤ b) : some b ≠ r := fun e => by
  have := h b e.symm
  omega

theorem row_ne' {r : Option Nat} {c b : Nat} (h : ∀ b, r = some b → c ≤ b) (hb : b < c) : some b ≠ r := fun e => by
  have := h b e.symm
  omega

theorem bel_one (w : World) (o : Obj) : Below w.heap.size w (w.alloc o) := (Below.refl _ _).alloc (Nat.le_refl _) _

end Go.Proofs.YtgacacbncefeaaaGreat.Disk

/- Rows of numbers: what a slice reads as; copied, held against each other, marked, grown. -/
namespace Go.Proofs.YtgacacbncefeaaaGreat
open Go.RowKit

theorem cell_later {w w' : World} {b o : Nat} {v : Value} (hb : Below w.heap.size w w') (h : w.cell? ⟨b, o, none⟩ = some v) : w'.cell? ⟨b, o, none⟩ = some v := by
  have hlt : b < w.heap.size := by
    rcases Nat.lt_or_ge b w.heap.size with h' | h'
    · exact h'
    · simp [World.cell?, Array.getElem?_eq_none h'] at h
  rw [hb.cell (p := ⟨b, o, none⟩) hlt]
  exact h
theorem bel_one (w : World) (o : Obj) : Below w.heap.size w (w.alloc o) := (Below.refl _ _).alloc (Nat.le_refl _) _
theorem bel_after {a b c : World} (h : Below a.heap.size a b) (k : Below b.heap.size b c) : Below a.heap.size a c := h.trans (k.mono h.size)
theorem frozen_later {w w' : World} {b o : Nat} (hb : Below w.heap.size w w') (hlt : b < w.heap.size) (h : w.frozen? ⟨b, o, none⟩ = false) : w'.frozen? ⟨b, o, none⟩ = false :=
  (hb.frozen (p := ⟨b, o, none⟩) hlt).trans h
theorem cell_new (w : World) (C : Array Value) (t n : Nat) (hn : w.heap.size = n) (j : Nat) (v : Value) (hv : C[j]? = some v) : (w.alloc (.cells C t)).cell? ⟨n, j, none⟩ = some v := by
  subst hn
  rw [World.cell?_alloc_mark]
  exact hv


/-- The numbers that a slice reads as. -/
def IR (w : World) (v : Value) (l : List Int) : Prop :=
  ∃ ao cap, v = .slice ao l.length cap ∧ l.length ≤ cap ∧ ∀ i, i < l.length → ∃ b o, ao = some ⟨b, o, none⟩ ∧ w.cell? ⟨b, o + i, none⟩ = some (.int .i64 (l.getD i 0))
theorem IR.later {w w' : World} {v : Value} {l : List Int} (h : IR w v l) (hb : Below w.heap.size w w') : IR w' v l := by
  obtain ⟨ao, cap, rfl, hle, h⟩ := h
  exact ⟨ao, cap, rfl, hle, fun i hi => by obtain ⟨b, o, e, hc⟩ := h i hi; exact ⟨b, o, e, cell_later hb hc⟩⟩

theorem ilists_eq {a b : List Int} (hl : a.length = b.length) (h : ∀ j, j < a.length → a.getD j 0 = b.getD j 0) : a = b := by
  refine List.ext_getElem hl fun i h1 h2 => ?_
  have := h i h1
  simpa [List.getD_eq_getElem?_getD, h1, h2] using this
theorem all_upto {p : Nat → Prop} {k : Nat} (h : ∀ j, j < k → p j) (hk : p k) : ∀ j, j < k + 1 → p j := fun j hj => by
  by_cases e : j = k
  · subst e; exact hk
  · exact h j (by omega)
theorem ret_bool {a b : Bool} (h : a = b) : Ending.returned (.bool a) = .returned (.bool b) := by rw [h]
theorem below_drewN {B : Nat} {a w : World} (h : Below B a w) (n : Nat) : Below B a (w.drewN n) := ⟨h.os, h.tape, h.output, h.size, h.block⟩

theorem Tryz.info2 : (Tryz.prog.info? 2).map (fun i => (i.zero, i.size, i.bytes)) = some (some (.int .i64 0), 1, 8) := by kernel_rfl
theorem make28 (n : Nat) (hn : n ≤ 10000000000000) (w : World) : (Instr.makeSlice 26 (.int .i64 (n : Int)) (.int .i64 (n : Int))).run Tryz.prog w = .ok (.slice (some ⟨w.heap.size, 0, none⟩) n n) (w.alloc (.cells (madeCells #[.int .i64 0] n) 2)) :=
  run_make_row' (P := Tryz.prog) 26 2 (.int .i64 0) 8 Tryz.underlying26 Tryz.info2 rfl .i64 .i64 n (by omega) (by omega) w
theorem row_any (w : World) (C : Array Value) (t : TypeId) : (w.alloc (.cells C t)).rowIs w.heap.size t C.size (fun i => C[i]?.getD undef) :=
  World.rowIs_alloc w C t _ (fun i hi => by simp [hi])
theorem made_ints (w : World) (n : Nat) : ∃ f, (w.alloc (.cells (madeCells #[.int .i64 0] n) 2)).rowIs w.heap.size 2 n f := by
  have h := row_any w (madeCells #[.int .i64 0] n) 2
  rw [size_madeCells] at h
  exact ⟨_, h⟩
theorem row_copy {w : World} {b N j : Nat} {t : TypeId} {g f : Nat → Value} (h : w.rowIs b t N (fun i => if i < j then g i else f i)) (v : Value) (hv : v = g j) :
    (w.setCell ⟨b, j, none⟩ v).rowIs b t N (fun i => if i < j + 1 then g i else f i) := by
  refine (h.set j _).congr fun i _ => ?_
  by_cases e : i = j
  · subst e; simp [hv]
  · by_cases e' : i < j
    · rw [if_neg e, if_pos e', if_pos (by omega)]
    · rw [if_neg e, if_neg e', if_neg (by omega)]
def icell (l : List Int) (i : Nat) : Value := .int .i64 (l.getD i 0)

set_option maxHeartbeats 400000 in
theorem eqInt64S_any (v u : Value) (ss tt : List Int) (w : World) (hv : IR w v ss) (hu : IR w u tt) (h1 : ss.length ≤ 1000000000000000) (_h2 : tt.length ≤ 1000000000000000) :
    Calls Tryz.prog 26 #[v, u] w fun e w' => e = .returned (.bool (decide (ss = tt))) ∧ Below w.heap.size w w' := by
  obtain ⟨ao, cap, rfl, _, hv⟩ := hv
  obtain ⟨bo, cbp, rfl, _, hu⟩ := hu
  by_cases hl : ss.length = tt.length
  · have hl' : ((ss.length : Int) != (tt.length : Int)) = false := by simp [hl]
    have HL : Hid (ss.length = tt.length) := hl
    go_enter Tryz.func26, Tryz.ntmps26
    go_wp2
    go_loopw [5] (fun a wr => ∃ (k : Nat), a = .int .i64 k ∧ k ≤ ss.length ∧ Hid (∀ j, j < k → ss.getD j 0 = tt.getD j 0) ∧ ∃ n, wr = w.drewN n) (fun a _ => (ss.length - (intOf a).toNat))
    case atStart => exact ⟨0, rfl, Nat.zero_le _, fun j hj => absurd hj (by omega), 0, rfl⟩
    case round =>
      obtain ⟨k, rfl, hk, hj, n, rfl⟩ := hrel
      by_cases hlt : k < ss.length
      · obtain ⟨b, o, rfl, hc⟩ := hv k hlt
        obtain ⟨b', o', rfl, hc'⟩ := hu k (by omega)
        have hlt' : k < tt.length := by omega
        generalize hs : ss.getD k 0 = s at *
        generalize ht : tt.getD k 0 = t at *
        have HS : Hid (ss.getD k 0 = s) := hs
        have HT : Hid (tt.getD k 0 = t) := ht
        clear hs ht hv hu hl
        go_wp2
        go_region
        all_goals go_wp2
        · have hne : s ≠ t := by simpa using ‹(s != t) = true›
          go_ret
          exact ⟨ret_bool (decide_eq_false (fun e => hne (by rw [← HS.out, ← HT.out, e]))).symm, below_drewN (Below.refl _ _) _⟩
        · have he : s = t := by simpa using ‹(s != t) = false›
          go_roundw
          case rel => exact ⟨k + 1, by go_num, by omega, all_upto hj.out (by rw [HS.out, HT.out, he]), _, rfl⟩
          case measure => simp [intOf]; omega
      · go_wp2
        go_ret
        exact ⟨ret_bool (decide_eq_true (ilists_eq hl (fun j hj' => hj.out j (by omega)))).symm, below_drewN (Below.refl _ _) _⟩
  · have hl' : ((ss.length : Int) != (tt.length : Int)) = true := by simp; omega
    go_enter Tryz.func26, Tryz.ntmps26
    go_wp2
    go_ret
    exact ⟨ret_bool (decide_eq_false (fun e => hl (by rw [e]))).symm, Below.refl _ _⟩


set_option maxHeartbeats 400000 in
theorem toInt64S_any (v : Value) (l : List Int) (w : World) (hv : IR w v l) (h1 : l.length ≤ 10000000000000) :
    Calls Tryz.prog 57 #[v] w fun e w' => ∃ v', e = .returned v' ∧ IR w' v' l ∧ Below w.heap.size w w' := by
  obtain ⟨ao, cap, rfl, _, hv⟩ := hv
  have hmk := make28 l.length h1
  obtain ⟨f, hr0⟩ := made_ints w l.length
  go_enter Tryz.func57, Tryz.ntmps57
  go_wp2
  go_loopw [4] (fun i wr => ∃ (j : Nat), j ≤ l.length ∧ i = .int .i64 j ∧ Below w.heap.size w wr ∧ wr.rowIs w.heap.size 2 l.length (fun i => if i < j then icell l i else f i)) (fun i _ => l.length - (intOf i).toNat)
  case atStart => exact ⟨0, Nat.zero_le _, rfl, bel_one _ _, hr0.congr (fun i _ => by simp)⟩
  case round =>
    obtain ⟨j, hj, rfl, hb, hrow⟩ := hrel
    by_cases hlt : j < l.length
    · obtain ⟨b, o, rfl, hc⟩ := hv j hlt
      have hc1 := cell_later hb hc
      have hc2 := hrow.cell (i := j) hlt
      have hf2 := hrow.frozen j
      have R := row_copy hrow (.int .i64 (l.getD j 0)) rfl
      have G := hb.setCell (p := ⟨w.heap.size, j, none⟩) (Nat.le_refl _) (.int .i64 (l.getD j 0))
      generalize l.getD j 0 = s at *
      clear hv hc hrow hr0 hmk
      go_wp2
      go_roundw
      case rel => exact ⟨j + 1, by omega, by go_num, G, R⟩
      case measure => simp [intOf]; omega
    · obtain rfl : j = l.length := by omega
      go_wp2
      go_ret
      exact ⟨_, rfl, ⟨_, _, rfl, Nat.le_refl _, fun i hi => ⟨_, 0, rfl, by rw [Nat.zero_add, hrow.cell hi, if_pos hi]; rfl⟩⟩, hb⟩


def icells (l : List Int) : List Value := l.map fun z => .int .i64 z
def tcells (l : List ByteArray) : List Value := l.map fun s => .string s
theorem icells_length (l : List Int) : (icells l).length = l.length := by simp [icells]
theorem tcells_length (l : List ByteArray) : (tcells l).length = l.length := by simp [tcells]
theorem own_none (w : World) (B e size : Nat) (hB : B ≤ w.heap.size) : (w.alloc (.cells #[] e)).ownsRow B e size (.slice (some ⟨w.heap.size, 0, none⟩) 0 0) 0 [] :=
  ⟨by simp, .inr ⟨w.heap.size, 0, #[], rfl, hB, heap_alloc_new w _, Nat.le_refl _, by unfold maxLen; omega, by simp, by simp⟩⟩
theorem own_later {w w' : World} {B e size : Nat} {v : Value} {n : Nat} {xs : List Value} (h : w.ownsRow B e size v n xs) (hb : Below w.heap.size w w') : w'.ownsRow B e size v n xs := by
  obtain ⟨hl, h⟩ := h
  refine ⟨hl, ?_⟩
  rcases h with h | ⟨g, cap, cur, hv, hB, hh, h1, h2, h3, h4⟩
  · exact .inl h
  · refine .inr ⟨g, cap, cur, hv, hB, ?_, h1, h2, h3, h4⟩
    have hlt : g < w.heap.size := by
      rcases Nat.lt_or_ge g w.heap.size with h' | h'
      · exact h'
      · rw [Array.getElem?_eq_none h'] at hh; cases hh
    rw [hb.block g hlt]
    exact hh
theorem own_cell {w : World} {B e : Nat} {v : Value} {n : Nat} {xs : List Value} (h : w.ownsRow B e 1 v n xs) : ∃ ao cap, v = .slice ao n cap ∧ n ≤ cap ∧ ∀ i, i < n → ∃ b, ao = some ⟨b, 0, none⟩ ∧ w.cell? ⟨b, i, none⟩ = xs[i]? := by
  obtain ⟨hl, h⟩ := h
  rcases h with ⟨rfl, rfl⟩ | ⟨g, cap, cur, rfl, hB, hh, h1, h2, h3, h4⟩
  · exact ⟨none, 0, rfl, Nat.le_refl _, fun i hi => by omega⟩
  · refine ⟨_, cap, rfl, h1, fun i hi => ⟨g, rfl, ?_⟩⟩
    rw [← h4, List.getElem?_take_of_lt (by omega)]
    simp [World.cell?, hh]
theorem IR_of_owns {w : World} {B : Nat} {v : Value} {l : List Int} (h : w.ownsRow B 2 1 v l.length (icells l)) : IR w v l := by
  obtain ⟨ao, cap, rfl, h1, h2⟩ := own_cell h
  refine ⟨ao, cap, rfl, h1, fun i hi => ?_⟩
  obtain ⟨b, rfl, hc⟩ := h2 i hi
  refine ⟨b, 0, rfl, ?_⟩
  rw [Nat.zero_add, hc]
  simp [icells, hi]

theorem Tryz.infoI : (Tryz.prog.info? 2).map (fun i => (i.zero, i.size, i.bytes)) = some (some (.int .i64 0), 1, 8) := by kernel_rfl

theorem app_int {ops : Array Oper} {rest : List Oper} {o : Oper} {a : Act} {Q : Exit → Act → World → Prop} (w : World) (hgd : o.guard = none) (s x : Operand)
    (ho : o.op = .call { callee := .builtin .append, args := #[s, x], argTypes := #[26, 26] }) (B : Nat) (v : Value) (n : Nat) (xs : List Value) (hs : a.eval s = v) (hown : w.ownsRow B 2 1 v n xs)
    (g c : Nat) (z : Int) (hx : a.eval x = .slice (some ⟨g, 0, none⟩) 1 c) (hc : w.cell? ⟨g, 0, none⟩ = some (.int .i64 z)) (hn : n ≤ 1000000000000) (hB : B ≤ w.heap.size)
    (h : ∀ v' w', w'.ownsRow B 2 1 v' (n + 1) (xs ++ [.int .i64 z]) → w.grownBy w' v.ownBlock → wpList Tryz.prog ops Q rest (a.put o.dst v') w') : wpList Tryz.prog ops Q (o :: rest) a w := by
  obtain ⟨i, hi, hzz⟩ := Option.map_eq_some_iff.1 Tryz.infoI
  simp only [Prod.mk.injEq] at hzz
  obtain ⟨hz, hsz, hby⟩ := hzz
  refine wpList_append_own w hgd s x 26 ho B 2 i _ 1 8 Tryz.underlying26 hi hz hsz hby rfl (by omega) v n xs hs hown ⟨g, 0, none⟩ 1 c [.int .i64 z] hx rfl (fun j u hj => ?_) (fun u hu => ?_) (by unfold maxLen; omega) (by omega) hB (fun v' w' h1 h2 _ => h v' w' h1 h2)
  · match j, hj with
    | 0, hj => simp at hj; subst hj; simpa [Addr.add] using hc
  · simp at hu; subst hu; rfl
/-- What was below the row's ground stays where the row has grown. -/
theorem own_grown {w0 w w' : World} {B e size n : Nat} {v : Value} {xs : List Value} (hb : Below B w0 w) (hown : w.ownsRow B e size v n xs) (hg : w.grownBy w' v.ownBlock) (hB : B ≤ w.heap.size) : Below B w0 w' := by
  refine Below.grown hb hg hB (fun k hk => ?_)
  obtain ⟨_, h⟩ := hown
  rcases h with ⟨rfl, _⟩ | ⟨g, cap, cur, rfl, hg, _⟩
  · cases hk
  · cases hk; exact hg


def imarks (k : Int) (n : Nat) : List Int := (List.range n).map fun i : Nat => k + i
theorem imarks_length (k : Int) (n : Nat) : (imarks k n).length = n := by simp [imarks]
theorem imarks_get (k : Int) (n i : Nat) (h : i < n) : (imarks k n).getD i 0 = k + i := by simp [imarks, h]

theorem OS_of_owns {w : World} {B e n : Nat} {v : Value} {xs : List Value} (h : w.ownsRow B e 1 v n xs) : Disk.OS w e 1 v n := by
  obtain ⟨hl, h⟩ := h
  rcases h with ⟨rfl, rfl⟩ | ⟨g, cap, cur, rfl, hB, hh, h1, h2, h3, h4⟩
  · exact ⟨none, 0, rfl, .inl rfl⟩
  · exact ⟨_, cap, rfl, .inr ⟨g, cur.size, fun i => cur[i]?.getD undef, rfl, by omega, cur, hh, rfl, fun i hi => by simp [hi]⟩⟩
theorem row_of_owns {w : World} {B e n : Nat} {v : Value} {xs : List Value} (h : w.ownsRow B e 1 v n xs) : ∀ b, Disk.rowOf v n = some b → B ≤ b := by
  intro b hb
  obtain ⟨hl, h⟩ := h
  rcases h with ⟨rfl, rfl⟩ | ⟨g, cap, cur, rfl, hB, hh, h1, h2, h3, h4⟩
  · simp [Disk.rowOf] at hb
  · unfold Disk.rowOf at hb
    split at hb
    · cases hb
    · simp [Value.ownBlock] at hb
      omega

theorem IR.grown {w w' : World} {v : Value} {l : List Int} {row : Option Nat} (h : IR w v l) (hg : w.grownBy w' row) (hne : l = [] ∨ v.ownBlock ≠ row) : IR w' v l := by
  obtain ⟨ao, cap, rfl, hle, h⟩ := h
  refine ⟨ao, cap, rfl, hle, fun i hi => ?_⟩
  obtain ⟨b, o, rfl, hc⟩ := h i hi
  rcases hne with rfl | hne
  · simp at hi
  · exact ⟨b, o, rfl, hg.cell hc hne⟩
theorem IR.low {w w' : World} {v : Value} {l : List Int} {row : Option Nat} {B : Nat} (h : IR w v l) (hg : w.grownBy w' row) (hB : ∀ a n c, v = .slice (some a) n c → 0 < n → a.block < B) (hr : ∀ b, row = some b → B ≤ b) : IR w' v l := by
  by_cases hl : l = []
  · exact h.grown hg (.inl hl)
  · obtain ⟨ao, cap, rfl, hle, h'⟩ := id h
    have hp : 0 < l.length := by cases l with | nil => exact absurd rfl hl | cons _ _ => simp
    obtain ⟨b, o, rfl, hc⟩ := h' 0 hp
    refine h.grown hg (.inr fun e => ?_)
    have h1 := hB _ _ _ rfl hp
    have h2 := hr b e.symm
    simp at h1
    omega
theorem IR.lt {w : World} {v : Value} {l : List Int} (h : IR w v l) : ∀ a n c, v = .slice (some a) n c → 0 < n → a.block < w.heap.size := by
  obtain ⟨ao, cap, rfl, hle, h⟩ := h
  intro a n c e hp
  simp only [Value.slice.injEq] at e
  obtain ⟨rfl, rfl, _⟩ := e
  obtain ⟨b, o, e2, hc⟩ := h 0 hp
  simp only [Option.some.injEq] at e2
  subst e2
  exact World.block_lt_of_cell? _ _ hc

theorem irow_mark {w : World} {b N j : Nat} {k : Int} {f : Nat → Value} (h : w.rowIs b 2 N (fun i : Nat => if i < j then .int .i64 (k + i) else f i)) :
    (w.setCell ⟨b, j, none⟩ (.int .i64 (k + j))).rowIs b 2 N (fun i : Nat => if i < j + 1 then .int .i64 (k + i) else f i) := by
  refine (h.set j _).congr fun i _ => ?_
  by_cases e : i = j
  · subst e; simp
  · by_cases e' : i < j
    · rw [if_neg e, if_pos e', if_pos (by omega)]
    · rw [if_neg e, if_neg e', if_neg (by omega)]
theorem irow_marks {w : World} {b N n cap : Nat} {k : Int} {f : Nat → Value} (h : w.rowIs b 2 N (fun i : Nat => if i < n then .int .i64 (k + i) else f i)) (hN : n ≤ N) (hc : n ≤ cap) :
    IR w (.slice (some ⟨b, 0, none⟩) n cap) (imarks k n) := by
  refine ⟨some ⟨b, 0, none⟩, cap, by rw [imarks_length], by rw [imarks_length]; exact hc, fun i hi => ⟨b, 0, rfl, ?_⟩⟩
  rw [imarks_length] at hi
  rw [imarks_get k n i hi, Nat.zero_add, h.cell (by omega), if_pos hi]

set_option maxHeartbeats 400000 in
theorem markInt64S_any (v : Value) (n : Nat) (k : Int) (w : World) (hv : Disk.OS w 2 1 v n) (hc : ∃ ao cap, v = .slice ao n cap ∧ n ≤ cap) (h0 : 0 < k) (h1 : k + n ≤ 1000000000000000) :
    Calls Tryz.prog 27 #[v, .int .i64 k] w fun e w' => e = .returned (.int .i64 (k + n)) ∧ w.grownBy w' (Disk.rowOf v n) ∧ IR w' v (imarks k n) := by
  obtain ⟨ao, cap, rfl, hv⟩ := hv
  have hcap : n ≤ cap := by
    obtain ⟨_, _, e, h⟩ := hc
    simp only [Value.slice.injEq] at e
    omega
  clear hc
  by_cases hn : n = 0
  · subst hn
    go_enter Tryz.func27, Tryz.ntmps27
    go_wp2
    refine wp_loop_rounds 1 ?_
    rw [rounds_succ]
    go_wp2
    go_ret
    exact ⟨Disk.ret_int (by simp), World.grownBy.refl _ _, ⟨ao, cap, by simp [imarks], by simp [imarks], fun i hi => by simp [imarks] at hi⟩⟩
  · obtain ⟨b, N, f, rfl, hN, hr⟩ := hv.resolve_left hn
    have hro : Disk.rowOf (.slice (some ⟨b, 0, none⟩) n cap) n = some b := by simp [Disk.rowOf, hn, Value.ownBlock]
    rw [hro]
    rw [Nat.mul_one] at hN
    clear hv hro
    go_enter Tryz.func27, Tryz.ntmps27
    go_wp2
    go_loopw [1, 5] (fun c i wr => ∃ j : Nat, j ≤ n ∧ i = .int .i64 j ∧ c = .int .i64 (k + j) ∧ w.grownBy wr (some b) ∧ wr.rowIs b 2 N (fun i : Nat => if i < j then .int .i64 (k + i) else f i)) (fun _ i _ => n - (intOf i).toNat)
    case atStart => exact ⟨0, Nat.zero_le _, rfl, by go_num, World.grownBy.refl _ _, hr.congr (fun i _ => by simp)⟩
    case round =>
      obtain ⟨j, hj, rfl, rfl, hg, hrow⟩ := hrel
      by_cases hlt : j < n
      · have hc2 := hrow.cell (i := j) (by omega)
        have hf2 := hrow.frozen j
        have R := irow_mark hrow
        have G := Disk.grown_trans hg (Disk.grown_set wr b j (.int .i64 (k + j)))
        clear hrow hg
        go_wp2
        go_roundw
        case rel => exact ⟨j + 1, by omega, by go_num, by go_num, G, R⟩
        case measure => simp [intOf]; omega
      · obtain rfl : j = n := by omega
        go_wp2
        go_ret
        exact ⟨rfl, hg, irow_marks hrow hN hcap⟩

set_option maxHeartbeats 400000 in
theorem heldInt64S_any (v : Value) (n : Nat) (k : Int) (w : World) (hv : IR w v (imarks k n)) (h0 : 0 < k) (h1 : k + n ≤ 1000000000000000) :
    Calls Tryz.prog 28 #[v, .int .i64 k] w fun e w' => e = .returned (.int .i64 (k + n)) ∧ Below w.heap.size w w' := by
  obtain ⟨ao, cap, rfl, _, hv⟩ := hv
  rw [imarks_length] at hv ⊢
  go_enter Tryz.func28, Tryz.ntmps28
  go_wp2
  go_loopw [1, 5] (fun c i wr => ∃ j : Nat, j ≤ n ∧ i = .int .i64 j ∧ c = .int .i64 (k + j) ∧ Below w.heap.size w wr) (fun _ i _ => n - (intOf i).toNat)
  case atStart => exact ⟨0, Nat.zero_le _, rfl, by go_num, Below.refl _ _⟩
  case round =>
    obtain ⟨j, hj, rfl, rfl, hb⟩ := hrel
    by_cases hlt : j < n
    · obtain ⟨b, o, rfl, hc⟩ := hv j hlt
      rw [imarks_get k n j hlt] at hc
      have hc1 := cell_later hb hc
      clear hv hc
      go_wp2
      go_roundw
      case rel => exact ⟨j + 1, by omega, by go_num, by go_num, hb⟩
      case measure => simp [intOf]; omega
    · obtain rfl : j = n := by omega
      go_wp2
      go_ret
      exact ⟨rfl, hb⟩


end Go.Proofs.YtgacacbncefeaaaGreat
