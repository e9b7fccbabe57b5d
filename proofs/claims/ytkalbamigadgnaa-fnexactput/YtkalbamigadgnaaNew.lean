/- NewDisk of the program and of the model: a new disk of 64 empty sectors. -/
import Derived.Test.YtkalbamigadgnaaEq
import Derived.Test.YtkalbamigadgnaaHeldW
namespace Go.Proofs.Ytkalbamigadgnaa
open Go.RowKit

/-- What was made since w: a disk's value with rows of its own that reads as these sectors and late writes. -/
def ND (B : Nat) (w' : World) (v1 v2 : Value) (ss : List ByteArray) (ws : List Wr) : Prop :=
  OS w' 9 1 v1 ss.length ∧ OS w' 53 2 v2 ws.length ∧ SR w' v1 ss ∧ WR w' v2 ws ∧ (∀ b, rowOf v1 ss.length = some b → B ≤ b) ∧ (∀ b, rowOf v2 ws.length = some b → B ≤ b)

theorem ND.later {B : Nat} {w w' : World} {v1 v2 : Value} {ss : List ByteArray} {ws : List Wr} (h : ND B w v1 v2 ss ws) (hb : Below w.heap.size w w') : ND B w' v1 v2 ss ws :=
  ⟨h.1.later hb, h.2.1.later hb, h.2.2.1.later hb, h.2.2.2.1.later hb, h.2.2.2.2⟩

theorem ND.s1 {B : Nat} {w : World} {v1 v2 : Value} {ss : List ByteArray} {ws : List Wr} (h : ND B w v1 v2 ss ws) : ∃ ao n cap, v1 = .slice ao n cap := by
  obtain ⟨ao, cap, e, _⟩ := h.1
  exact ⟨ao, _, cap, e⟩

theorem ND.s2 {B : Nat} {w : World} {v1 v2 : Value} {ss : List ByteArray} {ws : List Wr} (h : ND B w v1 v2 ss ws) : ∃ ao n cap, v2 = .slice ao n cap := by
  obtain ⟨ao, cap, e, _⟩ := h.2.1
  exact ⟨ao, _, cap, e⟩

theorem ND.dr {B : Nat} {w : World} {v1 v2 : Value} {ss : List ByteArray} {ws : List Wr} (h : ND B w v1 v2 ss ws) (h1 : ss.length ≤ 1000000000000000) (h2 : ws.length ≤ 1000000000000000) : DR w (.agg #[v1, v2]) ss ws :=
  ⟨v1, v2, rfl, h.2.2.1, h.2.2.2.1, h1, h2⟩

theorem Try.info9 : (Try.prog.info? 9).map (fun i => (i.zero, i.size, i.bytes)) = some (some (.string ⟨#[]⟩), 1, 16) := by kernel_rfl
theorem Try.under22 : Try.prog.underlying 22 = some (.slice 9) := by kernel_rfl

def empties : Array Value := madeCells #[.string ⟨#[]⟩] 64
def es64 : List ByteArray := List.replicate 64 ByteArray.empty
theorem es64_length : es64.length = 64 := by simp [es64]
theorem es64_get (i : Nat) (_h : i < 64) : es64.getD i ByteArray.empty = ByteArray.empty := by
  unfold es64
  rw [List.getD_eq_getElem?_getD, List.getElem?_replicate]
  split <;> rfl

theorem make64 (w : World) : (Instr.makeSlice 22 (.int .i64 64) (.int .i64 64)).run Try.prog w = .ok (.slice (some ⟨w.heap.size, 0, none⟩) 64 64) (w.alloc (.cells empties 9)) := by
  exact run_make_row' (P := Try.prog) 22 9 (.string ⟨#[]⟩) 16 Try.under22 Try.info9 rfl .i64 .i64 64 (by decide) (by decide) w

theorem empties_row (w : World) : (w.alloc (.cells empties 9)).rowIs w.heap.size 9 64 (fun _ => .string ⟨#[]⟩) := World.rowIs_made w _ 64 9

theorem nd_row (B : Nat) (w : World) (b : Nat) (h : w.rowIs b 9 64 (fun _ => .string ⟨#[]⟩)) (hB : B ≤ b) : ND B w (.slice (some ⟨b, 0, none⟩) 64 64) (.slice none 0 0) es64 [] := by
  rw [ND, es64_length]
  refine ⟨⟨_, _, rfl, .inr ⟨b, 64, _, rfl, by omega, h⟩⟩, ⟨_, _, rfl, .inl rfl⟩, ⟨_, _, by rw [es64_length], fun i hi => ⟨b, 0, rfl, ?_⟩⟩, ⟨_, _, rfl, fun i hi => by simp at hi⟩, fun b' e => ?_, fun b' e => by simp [rowOf] at e⟩
  · rw [es64_length] at hi
    rw [es64_get i hi, Nat.zero_add, h.cell hi]
    rfl
  · simp [rowOf, Value.ownBlock] at e
    omega

set_option maxHeartbeats 400000 in
theorem specNewDisk_any (w : World) : Calls Try.prog 14 #[] w fun e w' => ∃ v1 v2, e = .returned (.agg #[v1, v2]) ∧ ND w.heap.size w' v1 v2 es64 [] ∧ Below w.heap.size w w' := by
  have hmk := make64
  have R := empties_row (w.alloc (.cells #[.slice (some ⟨w.heap.size + 1, 0, none⟩) 64 64, .slice none 0 0] 30))
  rw [World.size_alloc] at R
  go_enter Try.func14, Try.ntmps14
  go_wp2
  exact bodyPost_ret (v := .agg #[.slice (some ⟨w.heap.size + 1, 0, none⟩) 64 64, .slice none 0 0]) (by simp [results, Try.results14, go_sem]) rfl ⟨_, _, rfl, nd_row _ _ _ R (by omega), bel_two _ _ _⟩

set_option maxHeartbeats 400000 in
theorem implNewDisk_any (w : World) : Calls Try.prog 15 #[] w fun e w' => ∃ v1 v2, e = .returned (.agg #[v1, v2]) ∧ ND w.heap.size w' v1 v2 es64 [] ∧ Below w.heap.size w w' := by
  have hmk := make64
  have R := empties_row (w.alloc (.cells #[.slice (some ⟨w.heap.size + 1, 0, none⟩) 64 64, .slice none 0 0] 30))
  rw [World.size_alloc] at R
  go_enter Try.func15, Try.ntmps15
  go_wp2
  exact bodyPost_ret (v := .agg #[.slice (some ⟨w.heap.size + 1, 0, none⟩) 64 64, .slice none 0 0]) (by simp [results, Try.results15, go_sem]) rfl ⟨_, _, rfl, nd_row _ _ _ R (by omega), bel_two _ _ _⟩

end Go.Proofs.Ytkalbamigadgnaa
