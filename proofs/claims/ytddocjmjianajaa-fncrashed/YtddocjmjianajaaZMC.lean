import Derived.Test.YtddocjmjianajaaZMB
import Derived.Test.YtddocjmjianajaaZMH
import Derived.Test.YtddocjmjianajaaZMA
/- readNumber and numberAhead of the program. -/
namespace Go.Proofs.Ytddocjmjianajaa
open Go.RowKit

theorem bytesOf_size (l : List UInt8) : (bytesOf l).size = l.length := by
  show l.toArray.size = _
  rw [List.size_toArray]
theorem str_ne' {s t : ByteArray} (h : s ≠ t) : (!s.toList == t.toList) = true := by
  simp
  intro e
  rw [ByteArray.toList_eq, ByteArray.toList_eq] at e
  exact h (ByteArray.ext (Array.toList_inj.1 e))


theorem below_dr (w : World) (n : Nat) : Below w.heap.size w (w.drewN n) := ⟨rfl, rfl, rfl, Nat.le_refl _, fun _ _ => rfl⟩

end Go.Proofs.Ytddocjmjianajaa

/- numberAhead and splitPage of the program. -/
namespace Go.Proofs.Ytddocjmjianajaa
open Go.RowKit

theorem bytesOf_list (l : List UInt8) : (bytesOf l).data.toList = l := by unfold bytesOf; simp



end Go.Proofs.Ytddocjmjianajaa

/- SuperText of the program. -/
namespace Go.Proofs.Ytddocjmjianajaa
open Go.RowKit


theorem IR.head {w : World} {b o cap : Nat} {l : List Int} {k : Nat} (h : ∀ m, m < l.length → w.cell? ⟨b, o + m, none⟩ = some (.int .i64 (l.getD m 0))) (hk : k ≤ l.length) (hc : k ≤ cap) : IR w (.slice (some ⟨b, o, none⟩) k cap) (l.take k) := by
  have e : (l.take k).length = k := by rw [List.length_take]; omega
  refine ⟨some ⟨b, o, none⟩, cap, by rw [e], by rw [e]; exact hc, fun i hi => ⟨b, o, rfl, ?_⟩⟩
  rw [take_get (by omega)]
  exact h i (by omega)


end Go.Proofs.Ytddocjmjianajaa

/- splitPage of the program. -/
namespace Go.Proofs.Ytddocjmjianajaa
open Go.RowKit

/-- The program's own errors: each variable holds an error of its own. -/
structure Errs (a0 a1 a2 a3 : Addr) (w : World) : Prop where
  e0 : w.cell? ⟨0, 0, none⟩ = some (.iface 0 (.pointer (some a0)))
  e1 : w.cell? ⟨0, 0, none⟩ = some (.iface 0 (.pointer (some a1)))
  e2 : w.cell? ⟨0, 0, none⟩ = some (.iface 0 (.pointer (some a2)))
  e3 : w.cell? ⟨0, 0, none⟩ = some (.iface 0 (.pointer (some a3)))
theorem Errs.later {a0 a1 a2 a3 : Addr} {w w' : World} (h : Errs a0 a1 a2 a3 w) (hb : Below w.heap.size w w') : Errs a0 a1 a2 a3 w' :=
  ⟨cell_later hb h.e0, cell_later hb h.e1, cell_later hb h.e2, cell_later hb h.e3⟩
theorem frozen_later {w w' : World} {b o : Nat} (hb : Below w.heap.size w w') (hlt : b < w.heap.size) (h : w.frozen? ⟨b, o, none⟩ = false) : w'.frozen? ⟨b, o, none⟩ = false :=
  (hb.frozen (p := ⟨b, o, none⟩) hlt).trans h

def errV (part : ByteArray) (a : Addr) : Value := .iface 0 (.agg #[.string part, .iface 0 (.pointer (some a))])
/-- A page's four cells in block R, as they are at first. -/
structure Zp (R : Nat) (w : World) : Prop where
  c0 : w.cell? ⟨R, 0, none⟩ = some (.int .i64 0)
  c1 : w.cell? ⟨R, 1, none⟩ = some (.int .i64 0)
  c2 : w.cell? ⟨R, 2, none⟩ = some (.int .i64 0)
  c3 : w.cell? ⟨R, 3, none⟩ = some (.string ⟨#[]⟩)
  f0 : w.frozen? ⟨R, 0, none⟩ = false
  f1 : w.frozen? ⟨R, 1, none⟩ = false
  f2 : w.frozen? ⟨R, 2, none⟩ = false
  f3 : w.frozen? ⟨R, 3, none⟩ = false
  lt : R < w.heap.size
theorem Zp.later {R : Nat} {w w' : World} (h : Zp R w) (hb : Below w.heap.size w w') : Zp R w' :=
  ⟨cell_later hb h.c0, cell_later hb h.c1, cell_later hb h.c2, cell_later hb h.c3, frozen_later hb h.lt h.f0, frozen_later hb h.lt h.f1, frozen_later hb h.lt h.f2, frozen_later hb h.lt h.f3, Nat.lt_of_lt_of_le h.lt hb.size⟩
theorem Zp.new (w : World) : Zp w.heap.size (w.alloc (.cells #[.int .i64 0, .int .i64 0, .int .i64 0, .string ⟨#[]⟩] 0)) := by
  constructor <;> simp



theorem lt_of_cell {w : World} {b o : Nat} {v : Value} (h : w.cell? ⟨b, o, none⟩ = some v) : b < w.heap.size := by
  rcases Nat.lt_or_ge b w.heap.size with h' | h'
  · exact h'
  · simp [World.cell?, Array.getElem?_eq_none h'] at h



end Go.Proofs.Ytddocjmjianajaa

/- readSuper of the program. -/
namespace Go.Proofs.Ytddocjmjianajaa
open Go.RowKit

theorem cutN_less {l r : List UInt8} {most : Nat} {n : Int} (h : cutN l most = some (n, r)) : r.length + 1 ≤ l.length := by
  unfold cutN at h
  cases hf : l.findIdx? (· == 59) with
  | none => rw [hf] at h; simp at h
  | some i =>
    rw [hf] at h
    simp only at h
    split at h
    · simp only [Option.some.injEq, Prod.mk.injEq] at h
      obtain ⟨_, rfl⟩ := h
      obtain ⟨hi, _⟩ := List.findIdx?_eq_some_iff_getElem.1 hf
      rw [List.length_drop]
      omega
    · simp at h
theorem supR_none_of {s : ByteArray} (h : ∀ e l, supOk e l = true → supT e l = s → False) : supR s = none := by
  cases hr : supR s with
  | none => rfl
  | some x =>
    obtain ⟨e, l⟩ := x
    obtain ⟨h1, h2⟩ := supR_is hr
    exact absurd (h e l h1 h2) id


/-- A superblock's three cells in block R. -/
structure Zs (R : Nat) (w : World) : Prop where
  c0 : w.cell? ⟨R, 0, none⟩ = some (.int .i64 0)
  c1 : w.cell? ⟨R, 1, none⟩ = some (.slice none 0 0)
  c2 : w.cell? ⟨R, 2, none⟩ = some (.slice none 0 0)
  f0 : w.frozen? ⟨R, 0, none⟩ = false
  f1 : w.frozen? ⟨R, 1, none⟩ = false
  f2 : w.frozen? ⟨R, 2, none⟩ = false
  lt : R < w.heap.size
theorem Zs.later {R : Nat} {w w' : World} (h : Zs R w) (hb : Below w.heap.size w w') : Zs R w' :=
  ⟨cell_later hb h.c0, cell_later hb h.c1, cell_later hb h.c2, frozen_later hb h.lt h.f0, frozen_later hb h.lt h.f1, frozen_later hb h.lt h.f2, Nat.lt_of_lt_of_le h.lt hb.size⟩
theorem Zs.new (w : World) : Zs w.heap.size (w.alloc (.cells #[.int .i64 0, .slice none 0 0, .slice none 0 0] 0)) := by
  constructor <;> simp
theorem zs_ends {w w2 : World} {R : Nat} (h : Below w.heap.size w w2) (hR : w.heap.size ≤ R) (v0 v1 v2 : Value) :
    Below w.heap.size w (((w2.setCell ⟨R, 0, none⟩ v0).setCell ⟨R, 1, none⟩ v1).setCell ⟨R, 2, none⟩ v2) :=
  ((h.setCell (p := ⟨R, 0, none⟩) hR _).setCell (p := ⟨R, 1, none⟩) hR _).setCell (p := ⟨R, 2, none⟩) hR _
/-- A row that lies above block R is not touched by a store into R. -/
theorem own_store {w : World} {B e size n R o : Nat} {v : Value} {xs : List Value} (h : w.ownsRow B e size v n xs) (hR : R < B) (x : Value) : (w.setCell ⟨R, o, none⟩ x).ownsRow B e size v n xs := by
  obtain ⟨hl, h⟩ := h
  refine ⟨hl, ?_⟩
  rcases h with h | ⟨g, cap, cur, hv, hB, hh, h1, h2, h3, h4⟩
  · exact .inl h
  · refine .inr ⟨g, cap, cur, hv, hB, ?_, h1, h2, h3, h4⟩
    rw [Below.heap_setCell _ _ _ _ (by simp; omega)]
    exact hh
theorem own_mono {w : World} {B B' e size n : Nat} {v : Value} {xs : List Value} (h : w.ownsRow B e size v n xs) (hB : B' ≤ B) : w.ownsRow B' e size v n xs := by
  obtain ⟨hl, h⟩ := h
  refine ⟨hl, ?_⟩
  rcases h with h | ⟨g, cap, cur, hv, hb, hh⟩
  · exact .inl h
  · exact .inr ⟨g, cap, cur, hv, Nat.le_trans hB hb, hh⟩

def supV (e : Int) (v : Value) : Value := .agg #[.int .i64 e, v, .slice none 0 0]
/-- What readSuper answers. -/
def SupOut (s : ByteArray) (B : Nat) (x : Ending) (w' : World) : Prop :=
  match supR s with
  | none => x = .returned (.tuple #[.agg #[.int .i64 0, .slice none 0 0, .slice none 0 0], .bool false])
  | some (e, l) => ∃ v, x = .returned (.tuple #[.agg #[.int .i64 e, v, .slice none 0 0], .bool true]) ∧ w'.ownsRow B 2 1 v l.length (icells l)
theorem supOut_none {s : ByteArray} {B : Nat} {w' : World} (h : supR s = none) : SupOut s B (.returned (.tuple #[.agg #[.int .i64 0, .slice none 0 0, .slice none 0 0], .bool false])) w' := by unfold SupOut; rw [h]
theorem supOut_some {s : ByteArray} {B : Nat} {w' : World} {e : Int} {l : List Int} {v : Value} (h : supR s = some (e, l)) (ho : w'.ownsRow B 2 1 v l.length (icells l)) : SupOut s B (.returned (.tuple #[.agg #[.int .i64 e, v, .slice none 0 0], .bool true])) w' := by unfold SupOut; rw [h]; exact ⟨v, rfl, ho⟩


end Go.Proofs.Ytddocjmjianajaa

/- checkRange of the program. -/
namespace Go.Proofs.Ytddocjmjianajaa
open Go.RowKit

/-- The error that checkRange makes, or none. -/
def rangeV (n e : Int) (b : ByteArray) (part : ByteArray) (ev : Value) : Value := if pgOk n e b = true then .nilIface else .iface 0 (.agg #[.string part, ev])
theorem rangeV_no {n e : Int} {b part : ByteArray} {ev : Value} (h : pgOk n e b = false) : rangeV n e b part ev = .iface 0 (.agg #[.string part, ev]) := by unfold rangeV; rw [if_neg (by rw [h]; simp)]
theorem rangeV_yes {n e : Int} {b part : ByteArray} {ev : Value} (h : pgOk n e b = true) : rangeV n e b part ev = .nilIface := by unfold rangeV; rw [if_pos h]


end Go.Proofs.Ytddocjmjianajaa

/- readPage of the program. -/
namespace Go.Proofs.Ytddocjmjianajaa
open Go.RowKit

/-- What readPage answers of a text that has the form. -/
def formV (n e c : Int) (b : ByteArray) (a0 a1 : Addr) (part : ByteArray) : Value :=
  if pgOk n e b = true then (if crcS (headS n e ++ b) = c then .tuple #[pageV n e c b, .nilIface] else .tuple #[pageV 0 0 0 ⟨#[]⟩, errV part a1]) else .tuple #[pageV 0 0 0 ⟨#[]⟩, errV part a0]
theorem formV_range {n e c : Int} {b : ByteArray} {a0 a1 : Addr} {part : ByteArray} (h : pgOk n e b = false) : formV n e c b a0 a1 part = .tuple #[pageV 0 0 0 ⟨#[]⟩, errV part a0] := by unfold formV; rw [if_neg (by rw [h]; simp)]
theorem formV_sum {n e c : Int} {b : ByteArray} {a0 a1 : Addr} {part : ByteArray} (h : pgOk n e b = true) (k : ¬ crcS (headS n e ++ b) = c) : formV n e c b a0 a1 part = .tuple #[pageV 0 0 0 ⟨#[]⟩, errV part a1] := by unfold formV; rw [if_pos h, if_neg k]
theorem formV_is {n e c : Int} {b : ByteArray} {a0 a1 : Addr} {part : ByteArray} (h : pgOk n e b = true) (k : crcS (headS n e ++ b) = c) : formV n e c b a0 a1 part = .tuple #[pageV n e c b, .nilIface] := by unfold formV; rw [if_pos h, if_pos k]
/-- What readPage answers: the page and no error; or no page and one of the four errors. -/
def readV (s : ByteArray) (a0 a1 a2 a3 : Addr) (part : ByteArray) : Value :=
  if s = ⟨#[]⟩ then .tuple #[pageV 0 0 0 ⟨#[]⟩, errV part a2] else
  match formN s.data.toList with
  | none => .tuple #[pageV 0 0 0 ⟨#[]⟩, errV part a3]
  | some (n, e, c, b) => formV n e c (bytesOf b) a0 a1 part

theorem form_range {l : List UInt8} {n e c : Int} {b : List UInt8} (h : formN l = some (n, e, c, b)) :
    -1000000000000000000 ≤ n ∧ n ≤ 1000000000000000000 ∧ -1000000000000000000 ≤ e ∧ e ≤ 1000000000000000000 ∧ b.length ≤ l.length := by
  unfold formN at h
  split at h
  · cases h1 : cutN (l.drop 1) 9 with
    | none => rw [h1] at h; simp at h
    | some x1 =>
      obtain ⟨n', r1⟩ := x1
      rw [h1] at h
      simp only at h
      cases h2 : cutN r1 9 with
      | none => rw [h2] at h; simp at h
      | some x2 =>
        obtain ⟨e', r2⟩ := x2
        rw [h2] at h
        simp only at h
        cases h3 : cutN r2 10 with
        | none => rw [h3] at h; simp at h
        | some x3 =>
          obtain ⟨c', b'⟩ := x3
          rw [h3] at h
          simp only [Option.some.injEq, Prod.mk.injEq] at h
          obtain ⟨rfl, rfl, rfl, rfl⟩ := h
          obtain ⟨p1, p2, p3⟩ := cutN_range (by omega) h1
          obtain ⟨q1, q2, q3⟩ := cutN_range (by omega) h2
          obtain ⟨_, _, r3⟩ := cutN_range (by omega) h3
          rw [List.length_drop] at p3
          omega
  · simp at h

/-- The zero page stored over the zero page of block R. -/
theorem zp_ends {w w2 : World} {R : Nat} (h : Below w.heap.size w w2) (hR : w.heap.size ≤ R) (v0 v1 v2 v3 : Value) :
    Below w.heap.size w ((((w2.setCell ⟨R, 0, none⟩ v0).setCell ⟨R, 1, none⟩ v1).setCell ⟨R, 2, none⟩ v2).setCell ⟨R, 3, none⟩ v3) :=
  (((h.setCell (p := ⟨R, 0, none⟩) hR _).setCell (p := ⟨R, 1, none⟩) hR _).setCell (p := ⟨R, 2, none⟩) hR _).setCell (p := ⟨R, 3, none⟩) hR _




end Go.Proofs.Ytddocjmjianajaa
