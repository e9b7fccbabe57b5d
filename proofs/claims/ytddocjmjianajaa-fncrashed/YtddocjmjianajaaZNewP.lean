/- The newest superblock of a disk, in plain words. -/
import Derived.Test.YtddocjmjianajaaZMB
import Derived.Test.YtddocjmjianajaaZDBase
namespace Go.Proofs.Ytddocjmjianajaa
open Go.RowKit

def pageAt (ss : List ByteArray) (l : List Int) (i : Nat) : Int × Int × ByteArray × Int := openR (ss.getD (l.getD i 0).toNat ByteArray.empty)
/-- Sector number i of the list holds the page of that number, not younger than e. -/
def soundAt (ss : List ByteArray) (e : Int) (l : List Int) (i : Nat) : Bool := decide ((pageAt ss l i).2.2.2 = 0) && decide ((pageAt ss l i).1 = i) && decide ((pageAt ss l i).2.1 ≤ e)
def soundB (ss : List ByteArray) (e : Int) (l : List Int) (k : Nat) : Bool := (List.range k).all (soundAt ss e l)
def superR (ss : List ByteArray) (s : ByteArray) : Option (Int × List Int) :=
  match supR s with
  | none => none
  | some (e, l) => if soundB ss e l l.length = true then some (e, l) else none
def textAt (ss : List ByteArray) (i : Nat) : ByteArray := ss.getD i ByteArray.empty
def newR (ss : List ByteArray) : Int × List Int :=
  if (orNone (superR ss (textAt ss 0))).1 < (orNone (superR ss (textAt ss 1))).1 then orNone (superR ss (textAt ss 1)) else orNone (superR ss (textAt ss 0))

theorem soundB_succ (ss : List ByteArray) (e : Int) (l : List Int) (k : Nat) : soundB ss e l (k + 1) = (soundB ss e l k && soundAt ss e l k) := by
  unfold soundB
  rw [List.range_succ, List.all_append]
  simp
theorem soundB_false {ss : List ByteArray} {e : Int} {l : List Int} {i n : Nat} (h : soundAt ss e l i = false) (hi : i < n) : soundB ss e l n = false := by
  rw [Bool.eq_false_iff]
  intro hc
  unfold soundB at hc
  rw [List.all_eq_true.1 hc i (List.mem_range.2 hi)] at h
  exact absurd h (by simp)
theorem superR_or (ss : List ByteArray) (s : ByteArray) : orNone (superR ss s) = if soundB ss (orNone (supR s)).1 (orNone (supR s)).2 (orNone (supR s)).2.length = true then orNone (supR s) else (0, []) := by
  unfold superR
  cases h : supR s with
  | none => rfl
  | some x =>
    obtain ⟨e, l⟩ := x
    show orNone (if soundB ss e l l.length = true then some (e, l) else none) = if soundB ss e l l.length = true then (e, l) else (0, [])
    split <;> rfl
theorem or_mem (s : ByteArray) : ∀ i, i < (orNone (supR s)).2.length → 2 ≤ (orNone (supR s)).2.getD i 0 ∧ (orNone (supR s)).2.getD i 0 ≤ 63 := by
  cases h : supR s with
  | none => intro i hi; simp [orNone] at hi
  | some x =>
    obtain ⟨e, l⟩ := x
    intro i hi
    change i < l.length at hi
    have := supOk_mem (supR_is h).1 (l.getD i 0) (by simp [hi])
    exact this
theorem or_len (s : ByteArray) : (orNone (supR s)).2.length ≤ 30 := by
  cases h : supR s with
  | none => simp [orNone]
  | some x => exact (supOk_parts (supR_is h).1).2.2.1
theorem or_pos {s : ByteArray} {e : Int} {l : List Int} (h : supR s = some (e, l)) : 1 ≤ e := (supOk_parts (supR_is h).1).1
/-- A disk's sectors, all of which fit. -/
structure Ss (w : World) (v1 : Value) (ss : List ByteArray) : Prop where
  sr : Disk.SR w v1 ss
  len : ss.length = 64
  fit : ∀ k, k < 64 → (textAt ss k).size ≤ 256
theorem Ss.later {w w' : World} {v : Value} {ss : List ByteArray} (h : Ss w v ss) (hb : Below w.heap.size w w') : Ss w' v ss := ⟨h.sr.later hb, h.len, h.fit⟩

end Go.Proofs.Ytddocjmjianajaa
