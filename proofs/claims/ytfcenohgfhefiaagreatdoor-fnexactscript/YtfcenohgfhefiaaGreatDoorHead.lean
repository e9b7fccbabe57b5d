/- pageHead of the program. -/
import Derived.Test.YtfcenohgfhefiaaGreatDoorFmt
import Derived.Test.YtfcenohgfhefiaaGreatDoorSumI
import Derived.Deep.RegionHeld3
namespace Go.Proofs.YtfcenohgfhefiaaGreatDoor
open Go.RowKit

theorem cell_later {w w' : World} {b o : Nat} {v : Value} (hb : Below w.heap.size w w') (h : w.cell? ⟨b, o, none⟩ = some v) : w'.cell? ⟨b, o, none⟩ = some v := by
  have hlt : b < w.heap.size := by
    rcases Nat.lt_or_ge b w.heap.size with h' | h'
    · exact h'
    · simp [World.cell?, Array.getElem?_eq_none h'] at h
  rw [hb.cell (p := ⟨b, o, none⟩) hlt]
  exact h
theorem bel_one (w : World) (o : Obj) : Below w.heap.size w (w.alloc o) := (Below.refl _ _).alloc (Nat.le_refl _) _
/-- Two cells of a box, whatever came later. -/
theorem keep2 {W a b : World} {N i j : Nat} {u v : Value} (k : Below a.heap.size a b) (h : Below W.heap.size W a ∧ a.cell? ⟨N, i, none⟩ = some u ∧ a.cell? ⟨N, j, none⟩ = some v) :
    Below W.heap.size W b ∧ b.cell? ⟨N, i, none⟩ = some u ∧ b.cell? ⟨N, j, none⟩ = some v :=
  ⟨bel_after h.1 k, cell_later k h.2.1, cell_later k h.2.2⟩
theorem keep4 {W a b : World} {N : Nat} {u v x y : Value} (k : Below a.heap.size a b) (h : Below W.heap.size W a ∧ a.cell? ⟨N, 0, none⟩ = some u ∧ a.cell? ⟨N, 1, none⟩ = some v ∧ a.cell? ⟨N, 2, none⟩ = some x ∧ a.cell? ⟨N, 3, none⟩ = some y) :
    Below W.heap.size W b ∧ b.cell? ⟨N, 0, none⟩ = some u ∧ b.cell? ⟨N, 1, none⟩ = some v ∧ b.cell? ⟨N, 2, none⟩ = some x ∧ b.cell? ⟨N, 3, none⟩ = some y :=
  ⟨bel_after h.1 k, cell_later k h.2.1, cell_later k h.2.2.1, cell_later k h.2.2.2.1, cell_later k h.2.2.2.2⟩
theorem Tb.held {W w : World} {q : Prop} (h : Tb W) (hb : Below W.heap.size W w ∧ q) : Tb w := h.later hb.1

/-- A page as the program holds it. -/
def pageV (n e s : Int) (b : ByteArray) : Value := .agg #[.int .i64 n, .int .i64 e, .int .i64 s, .string b]

set_option maxRecDepth 100000 in
set_option maxHeartbeats 3200000 in
theorem pageHead_any (n e s : Int) (b : ByteArray) (w : World) (h0 : -9223372036854775808 ≤ n) (h1 : n ≤ 9223372036854775807) (k0 : -9223372036854775808 ≤ e) (k1 : e ≤ 9223372036854775807) (ht : Tb w) :
    Calls Tryz.prog 116 #[pageV n e s b] w fun x w' => x = .returned (.string (headS n e)) ∧ Below w.heap.size w w' := by
  have s1 := itoaB_size h0 h1
  have s2 := itoaB_size k0 k1
  have ht1 : Tb (w.alloc (.cells #[.int .i64 n, .int .i64 e, .int .i64 s, .string b] 134)) := ht.later (bel_one _ _)
  have g1 : ¬ 9223372036854775807 < (itoaB n).size + 1 := by omega
  have g2 : ¬ 9223372036854775807 < (itoaB n).size + 1 + (itoaB e).size := by omega
  have g3 : ¬ 9223372036854775807 < (itoaB n).size + 1 + (itoaB e).size + 1 := by omega
  unfold pageV
  go_enter Tryz.func116, Tryz.ntmps116
  go_wp2_with fail
  go_region_held3 (fun w' => Below (w.alloc (.cells #[.int .i64 n, .int .i64 e, .int .i64 s, .string b] 134)).heap.size (w.alloc (.cells #[.int .i64 n, .int .i64 e, .int .i64 s, .string b] 134)) w' ∧ w'.cell? ⟨w.heap.size, 0, none⟩ = some (.int .i64 n) ∧ w'.cell? ⟨w.heap.size, 1, none⟩ = some (.int .i64 e))
    (first | assumption | (refine ⟨(Below.refl _ _).drew, ?_, ?_⟩ <;> simp) | (exact keep2 (by assumption) (by assumption)) | (go_keep; done))
    (first
      | (go_at_call 73; refine (fmt_any _ _ (by assumption) (by assumption) ?_).mono ?_; (focus (exact ht1.held (by assumption))); rintro x w2 ⟨rfl, hb2⟩))
  all_goals
    go_wp2
    go_ret
    exact ⟨rfl, bel_after (bel_one _ _) (And.left (by assumption))⟩

theorem pageSum_size {n e : Int} {b : ByteArray} (h0 : -9223372036854775808 ≤ n) (h1 : n ≤ 9223372036854775807) (k0 : -9223372036854775808 ≤ e) (k1 : e ≤ 9223372036854775807) : (headS n e ++ b).size ≤ 42 + b.size := by
  have := headS_size h0 h1 k0 k1
  rw [ByteArray.size_append]
  omega

set_option maxRecDepth 100000 in
set_option maxHeartbeats 3200000 in
theorem pageSum_any (n e s : Int) (b : ByteArray) (w : World) (h0 : -9223372036854775808 ≤ n) (h1 : n ≤ 9223372036854775807) (k0 : -9223372036854775808 ≤ e) (k1 : e ≤ 9223372036854775807) (hb : b.size ≤ 100000000000) (ht : Tb w) :
    Calls Tryz.prog 117 #[pageV n e s b] w fun x w' => x = .returned (.int .i64 (crcS (headS n e ++ b))) ∧ Below w.heap.size w w' := by
  have s1 := headS_size h0 h1 k0 k1
  have ht1 : Tb (w.alloc (.cells #[.int .i64 n, .int .i64 e, .int .i64 s, .string b] 134)) := ht.later (bel_one _ _)
  have g1 : ¬ 9223372036854775807 < (headS n e).size + b.size := by omega
  have g2 : (headS n e ++ b).size ≤ 1000000000000 := by rw [ByteArray.size_append]; omega
  unfold pageV
  go_enter Tryz.func117, Tryz.ntmps117
  go_wp2_with fail
  go_region_held3 (fun w' => Below (w.alloc (.cells #[.int .i64 n, .int .i64 e, .int .i64 s, .string b] 134)).heap.size (w.alloc (.cells #[.int .i64 n, .int .i64 e, .int .i64 s, .string b] 134)) w' ∧ w'.cell? ⟨w.heap.size, 0, none⟩ = some (.int .i64 n) ∧ w'.cell? ⟨w.heap.size, 1, none⟩ = some (.int .i64 e) ∧ w'.cell? ⟨w.heap.size, 2, none⟩ = some (.int .i64 s) ∧ w'.cell? ⟨w.heap.size, 3, none⟩ = some (.string b))
    (first | assumption | (refine ⟨(Below.refl _ _).drew, ?_, ?_, ?_, ?_⟩ <;> simp) | (exact keep4 (by assumption) (by assumption)))
    (first
      | (go_at_call 116; refine (pageHead_any _ _ _ _ _ h0 h1 k0 k1 ?_).mono ?_; (focus (exact ht1.held (by assumption))); rintro x w2 ⟨rfl, hb2⟩)
      | (go_at_call 77; refine (sumOf_any _ _ g2).mono ?_; rintro x w3 ⟨rfl, rfl⟩))
  all_goals
    go_wp2
    go_ret
    exact ⟨rfl, bel_after (bel_one _ _) (And.left (by assumption))⟩

end Go.Proofs.YtfcenohgfhefiaaGreatDoor
