/- Rows of numbers: what a slice reads as; toInt64S, eqInt64S, slices.Index, slices.Contains. -/
import Derived.Test.YtfcenohgfhefiaaGreatDoorHead
import Derived.Deep.RegionWith
import Derived.Deep.OwnRows
import Derived.WalkLawsBesides
namespace Go.Proofs.YtfcenohgfhefiaaGreatDoor
open Go.RowKit

/-- The numbers that a slice reads as. -/
def IR (w : World) (v : Value) (l : List Int) : Prop :=
  ∃ ao cap, v = .slice ao l.length cap ∧ l.length ≤ cap ∧ ∀ i, i < l.length → ∃ b o, ao = some ⟨b, o, none⟩ ∧ w.cell? ⟨b, o + i, none⟩ = some (.int .i64 (l.getD i 0))
theorem IR.later {w w' : World} {v : Value} {l : List Int} (h : IR w v l) (hb : Below w.heap.size w w') : IR w' v l := by
  obtain ⟨ao, cap, rfl, hle, h⟩ := h
  exact ⟨ao, cap, rfl, hle, fun i hi => by obtain ⟨b, o, e, hc⟩ := h i hi; exact ⟨b, o, e, cell_later hb hc⟩⟩

theorem ilists_eq {a b : List Int} (hl : a.length = b.length) (h : ∀ j, j < a.length → a.getD j 0 = b.getD j 0) : a = b := by
  refine List.ext_getElem hl fun i h1 h2 => ?_
  have := h i h1
  simpa [List.getD_eq_getElem?_getD, h1, h2] using this
theorem all_upto {p : Nat → Prop} {k : Nat} (h : ∀ j, j < k → p j) (hk : p k) : ∀ j, j < k + 1 → p j := fun j hj => by
  by_cases e : j = k
  · subst e; exact hk
  · exact h j (by omega)
theorem ret_bool {a b : Bool} (h : a = b) : Ending.returned (.bool a) = .returned (.bool b) := by rw [h]
theorem below_drewN {B : Nat} {a w : World} (h : Below B a w) (n : Nat) : Below B a (w.drewN n) := ⟨h.os, h.tape, h.output, h.size, h.block⟩

theorem Tryz.info2 : (Tryz.prog.info? 2).map (fun i => (i.zero, i.size, i.bytes)) = some (some (.int .i64 0), 1, 8) := by kernel_rfl
theorem make28 (n : Nat) (hn : n ≤ 10000000000000) (w : World) : (Instr.makeSlice 35 (.int .i64 (n : Int)) (.int .i64 (n : Int))).run Tryz.prog w = .ok (.slice (some ⟨w.heap.size, 0, none⟩) n n) (w.alloc (.cells (madeCells #[.int .i64 0] n) 2)) :=
  run_make_row' (P := Tryz.prog) 35 2 (.int .i64 0) 8 Tryz.underlying35 Tryz.info2 rfl .i64 .i64 n (by omega) (by omega) w
theorem row_any (w : World) (C : Array Value) (t : TypeId) : (w.alloc (.cells C t)).rowIs w.heap.size t C.size (fun i => C[i]?.getD undef) :=
  World.rowIs_alloc w C t _ (fun i hi => by simp [hi])
theorem made_ints (w : World) (n : Nat) : ∃ f, (w.alloc (.cells (madeCells #[.int .i64 0] n) 2)).rowIs w.heap.size 2 n f := by
  have h := row_any w (madeCells #[.int .i64 0] n) 2
  rw [size_madeCells] at h
  exact ⟨_, h⟩
theorem row_copy {w : World} {b N j : Nat} {t : TypeId} {g f : Nat → Value} (h : w.rowIs b t N (fun i => if i < j then g i else f i)) (v : Value) (hv : v = g j) :
    (w.setCell ⟨b, j, none⟩ v).rowIs b t N (fun i => if i < j + 1 then g i else f i) := by
  refine (h.set j _).congr fun i _ => ?_
  by_cases e : i = j
  · subst e; simp [hv]
  · by_cases e' : i < j
    · rw [if_neg e, if_pos e', if_pos (by omega)]
    · rw [if_neg e, if_neg e', if_neg (by omega)]
def icell (l : List Int) (i : Nat) : Value := .int .i64 (l.getD i 0)


theorem not_mem_of {l : List Int} {x : Int} (h : ∀ j, j < l.length → l.getD j 0 ≠ x) : l.contains x = false := by
  rw [Bool.eq_false_iff]
  intro hc
  rw [List.contains_iff_mem] at hc
  obtain ⟨i, hi, e⟩ := List.getElem_of_mem hc
  exact h i hi (by simp [hi, e])
theorem mem_of {l : List Int} {x : Int} {k : Nat} (hk : k < l.length) (h : l.getD k 0 = x) : l.contains x = true := by
  rw [List.contains_iff_mem, ← h]
  simp [hk]

/-- Where the number stands first, or -1: all that is asked of it is its sign. -/
theorem index_any (v : Value) (l : List Int) (x : Int) (w : World) (hv : IR w v l) (h1 : l.length ≤ 1000000000000000) :
    Calls Tryz.prog 106 #[v, .int .i64 x] w fun e w' => (∃ z : Int, e = .returned (.int .i64 z) ∧ decide (0 ≤ z) = l.contains x) ∧ w' = w := by
  obtain ⟨ao, cap, rfl, _, hv⟩ := hv
  go_enter Tryz.func106, Tryz.ntmps106
  go_wp2
  go_loopw [8] (fun a wr => ∃ (k : Nat), a = .int .i64 k ∧ k ≤ l.length ∧ Hid (∀ j, j < k → l.getD j 0 ≠ x) ∧ wr = w) (fun a _ => (l.length - (intOf a).toNat))
  case atStart => exact ⟨0, rfl, Nat.zero_le _, fun j hj => absurd hj (by omega), rfl⟩
  case round =>
    obtain ⟨k, rfl, hk, hj, rfl⟩ := hrel
    by_cases hlt : k < l.length
    · obtain ⟨b, o, rfl, hc⟩ := hv k hlt
      by_cases hx : l.getD k 0 = x
      · have HM : Hid (l.contains x = true) := mem_of hlt hx
        rw [hx] at hc
        clear hv hx
        go_wp2
        go_ret
        exact ⟨⟨k, rfl, by rw [HM.out]; simp⟩, rfl⟩
      · have HX : Hid (∀ j, j < k + 1 → l.getD j 0 ≠ x) := all_upto hj.out hx
        clear hj
        generalize l.getD k 0 = y at *
        have hx' : (x == y) = false := by simp; exact fun e => hx e.symm
        clear hv hx
        go_wp2
        go_roundw
        case rel => exact ⟨k + 1, by go_num, by omega, HX, trivial⟩
        case measure => simp [intOf]; omega
    · obtain rfl : k = l.length := by omega
      have HM : Hid (l.contains x = false) := not_mem_of hj.out
      go_wp2
      go_ret
      exact ⟨⟨-1, rfl, by rw [HM.out]; rfl⟩, rfl⟩

theorem contains_any (v : Value) (l : List Int) (x : Int) (w : World) (hv : IR w v l) (h1 : l.length ≤ 1000000000000000) :
    Calls Tryz.prog 76 #[v, .int .i64 x] w fun e w' => e = .returned (.bool (l.contains x)) ∧ w' = w := by
  have C := index_any v l x w hv h1
  go_enter Tryz.func76, Tryz.ntmps76
  go_wp2_with fail
  refine C.mono ?_
  rintro e w1 ⟨⟨z, rfl, hz⟩, rfl⟩
  have HZ : Hid (decide (0 ≤ z) = l.contains x) := hz
  clear hz C
  go_wp2
  go_ret
  exact ⟨ret_bool HZ.out, rfl⟩

end Go.Proofs.YtfcenohgfhefiaaGreatDoor
