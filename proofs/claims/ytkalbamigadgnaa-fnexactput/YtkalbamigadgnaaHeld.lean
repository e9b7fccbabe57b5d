/- markStringS, heldStringS, markWriteS, heldWriteS, markDisk, heldDisk: marks that are laid are held. -/
import Derived.Test.YtkalbamigadgnaaMark
import Derived.Deep.RegionWith
namespace Go.Proofs.Ytkalbamigadgnaa
open Go.RowKit

theorem row_mark {w : World} {b N j : Nat} {k : Int} {f : Nat → Value} (h : w.rowIs b 9 N (fun i : Nat => if i < j then .string (mtext (k + i)) else f i)) :
    (w.setCell ⟨b, j, none⟩ (.string (mtext (k + j)))).rowIs b 9 N (fun i : Nat => if i < j + 1 then .string (mtext (k + i)) else f i) := by
  refine (h.set j _).congr fun i _ => ?_
  by_cases e : i = j
  · subst e; simp
  · by_cases e' : i < j
    · rw [if_neg e, if_pos e', if_pos (by omega)]
    · rw [if_neg e, if_neg e', if_neg (by omega)]

theorem row_marks {w : World} {b N n cap : Nat} {k : Int} {f : Nat → Value} (h : w.rowIs b 9 N (fun i : Nat => if i < n then .string (mtext (k + i)) else f i)) (hN : n ≤ N) :
    SR w (.slice (some ⟨b, 0, none⟩) n cap) (marks k n) := by
  refine ⟨some ⟨b, 0, none⟩, cap, by rw [marks_length], fun i hi => ⟨b, 0, rfl, ?_⟩⟩
  rw [marks_length] at hi
  rw [marks_get k n i hi, Nat.zero_add, h.cell (by omega), if_pos hi]

set_option maxHeartbeats 400000 in
theorem markStringS_any (v : Value) (n : Nat) (k : Int) (w : World) (hv : OS w 9 1 v n) (h0 : 0 < k) (h1 : k + n ≤ 1000000000000000) :
    Calls Try.prog 39 #[v, .int .i64 k] w fun e w' => e = .returned (.int .i64 (k + n)) ∧ w.grownBy w' (rowOf v n) ∧ SR w' v (marks k n) := by
  obtain ⟨ao, cap, rfl, hv⟩ := hv
  by_cases hn : n = 0
  · subst hn
    go_enter Try.func39, Try.ntmps39
    go_wp2
    refine wp_loop_rounds 1 ?_
    rw [rounds_succ]
    go_wp2
    go_ret
    exact ⟨ret_int (by simp), World.grownBy.refl _ _, ⟨ao, cap, by simp [marks], fun i hi => by simp [marks] at hi⟩⟩
  · obtain ⟨b, N, f, rfl, hN, hr⟩ := hv.resolve_left hn
    have hro : rowOf (.slice (some ⟨b, 0, none⟩) n cap) n = some b := by simp [rowOf, hn, Value.ownBlock]
    rw [hro]
    rw [Nat.mul_one] at hN
    clear hv hro
    go_enter Try.func39, Try.ntmps39
    go_wp2
    go_loopw [1, 5] (fun c i wr => ∃ j : Nat, j ≤ n ∧ i = .int .i64 j ∧ c = .int .i64 (k + j) ∧ w.grownBy wr (some b) ∧ wr.rowIs b 9 N (fun i : Nat => if i < j then .string (mtext (k + i)) else f i)) (fun _ i _ => n - (intOf i).toNat)
    case atStart => exact ⟨0, Nat.zero_le _, rfl, by go_num, World.grownBy.refl _ _, hr.congr (fun i _ => by simp)⟩
    case round =>
      obtain ⟨j, hj, rfl, rfl, hg, hrow⟩ := hrel
      by_cases hlt : j < n
      · go_wp2_with (fail)
        refine (markText_any _ _ (by omega) (by omega)).mono ?_
        rintro e w2 ⟨rfl, hb2⟩
        have hrow2 := hrow.of_block (hb2.block b hrow.lt)
        have hc2 := hrow2.cell (i := j) (by omega)
        have hf2 := hrow2.frozen j
        have hg2 := grown_trans hg (grown_below (row := some b) hb2)
        have R := row_mark hrow2
        have G := grown_trans hg2 (grown_set w2 b j (.string (mtext (k + j))))
        clear hrow hrow2 hg hg2
        go_wp2
        go_roundw
        case rel => exact ⟨j + 1, by omega, by go_num, by go_num, G, R⟩
        case measure => simp [intOf]; omega
      · obtain rfl : j = n := by omega
        go_wp2
        go_ret
        exact ⟨rfl, hg, row_marks hrow hN⟩

set_option maxHeartbeats 400000 in
theorem heldStringS_any (v : Value) (n : Nat) (k : Int) (w : World) (hv : SR w v (marks k n)) (h0 : 0 < k) (h1 : k + n ≤ 1000000000000000) :
    Calls Try.prog 41 #[v, .int .i64 k] w fun e w' => e = .returned (.int .i64 (k + n)) ∧ Below w.heap.size w w' := by
  obtain ⟨ao, cap, rfl, hv⟩ := hv
  rw [marks_length] at hv ⊢
  go_enter Try.func41, Try.ntmps41
  go_wp2
  go_loopw [1, 5] (fun c i wr => ∃ j : Nat, j ≤ n ∧ i = .int .i64 j ∧ c = .int .i64 (k + j) ∧ Below w.heap.size w wr) (fun _ i _ => n - (intOf i).toNat)
  case atStart => exact ⟨0, Nat.zero_le _, rfl, by go_num, Below.refl _ _⟩
  case round =>
    obtain ⟨j, hj, rfl, rfl, hb⟩ := hrel
    by_cases hlt : j < n
    · obtain ⟨b, o, rfl, hc⟩ := hv j hlt
      rw [marks_get k n j hlt] at hc
      have hc1 := cell_later hb hc
      clear hv hc
      go_wp2
      go_region_with (go_at_call 52; refine (markText_any _ _ (by omega) (by omega)).mono ?_; rintro e w2 ⟨rfl, hb2⟩; have hc2 := cell_later hb2 hc1)
      all_goals go_wp2
      all_goals
        have hb3 : Below w.heap.size w w2 := hb.drew.trans (hb2.mono hb.size)
        go_roundw
        case rel => exact ⟨j + 1, by omega, by go_num, by go_num, hb3⟩
        case measure => simp [intOf]; omega
    · obtain rfl : j = n := by omega
      go_wp2
      go_ret
      exact ⟨rfl, hb⟩

end Go.Proofs.Ytkalbamigadgnaa
