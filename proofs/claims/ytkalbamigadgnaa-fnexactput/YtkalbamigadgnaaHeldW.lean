/- markWriteS, heldWriteS, markDisk, heldDisk: marks that are laid are held. -/
import Derived.Test.YtkalbamigadgnaaHeld
namespace Go.Proofs.Ytkalbamigadgnaa
open Go.RowKit

def wcell (k : Int) (c : Nat) : Value := if c % 2 = 0 then .int .i64 (k + c) else .string (mtext (k + c))

theorem wrow_mark {w : World} {b N j : Nat} {k : Int} {f : Nat → Value} (h : w.rowIs b 53 N (fun c => if c < j then wcell k c else f c)) (v : Value) (hv : v = wcell k j) :
    (w.setCell ⟨b, j, none⟩ v).rowIs b 53 N (fun c => if c < j + 1 then wcell k c else f c) := by
  refine (h.set j _).congr fun i _ => ?_
  by_cases e : i = j
  · subst e; simp [hv]
  · by_cases e' : i < j
    · rw [if_neg e, if_pos e', if_pos (by omega)]
    · rw [if_neg e, if_neg e', if_neg (by omega)]

theorem wcell_even (k : Int) (j : Nat) : wcell k (j * 2) = .int .i64 (k + 2 * j) := by
  unfold wcell
  rw [if_pos (by omega)]
  congr 1
  omega

theorem wcell_odd (k : Int) (j : Nat) : wcell k (j * 2 + 1) = .string (mtext (k + 2 * j + 1)) := by
  unfold wcell
  rw [if_neg (by omega), show k + ((j * 2 + 1 : Nat) : Int) = k + 2 * j + 1 from by omega]

theorem wrow_marks {w : World} {b N n cap : Nat} {k : Int} {f : Nat → Value} (h : w.rowIs b 53 N (fun c => if c < n * 2 then wcell k c else f c)) (hN : n * 2 ≤ N) :
    WR w (.slice (some ⟨b, 0, none⟩) n cap) (wmarks k n) := by
  refine ⟨some ⟨b, 0, none⟩, cap, by rw [wmarks_length], fun i hi => ⟨b, 0, rfl, ?_, ?_⟩⟩
  · rw [wmarks_length] at hi
    rw [wmarks_get k n i hi, Nat.zero_add, h.cell (by omega), if_pos (by omega), wcell_even]
  · rw [wmarks_length] at hi
    rw [wmarks_get k n i hi, Nat.zero_add, h.cell (by omega), if_pos (by omega), wcell_odd]

set_option maxHeartbeats 400000 in
theorem markWriteS_any (v : Value) (n : Nat) (k : Int) (w : World) (hv : OS w 53 2 v n) (h0 : 0 < k) (h1 : k + 2 * n ≤ 1000000000000000) :
    Calls Try.prog 40 #[v, .int .i64 k] w fun e w' => e = .returned (.int .i64 (k + 2 * n)) ∧ w.grownBy w' (rowOf v n) ∧ WR w' v (wmarks k n) := by
  obtain ⟨ao, cap, rfl, hv⟩ := hv
  by_cases hn : n = 0
  · subst hn
    go_enter Try.func40, Try.ntmps40
    go_wp2
    refine wp_loop_rounds 1 ?_
    rw [rounds_succ]
    go_wp2
    go_ret
    exact ⟨ret_int (by simp), World.grownBy.refl _ _, ⟨ao, cap, by simp [wmarks], fun i hi => by simp [wmarks] at hi⟩⟩
  · obtain ⟨b, N, f, rfl, hN, hr⟩ := hv.resolve_left hn
    have hro : rowOf (.slice (some ⟨b, 0, none⟩) n cap) n = some b := by simp [rowOf, hn, Value.ownBlock]
    rw [hro]
    clear hv hro
    go_enter Try.func40, Try.ntmps40
    go_wp2
    go_loopw [1, 5] (fun c i wr => ∃ j : Nat, j ≤ n ∧ i = .int .i64 j ∧ c = .int .i64 (k + 2 * j) ∧ w.grownBy wr (some b) ∧ wr.rowIs b 53 N (fun c => if c < j * 2 then wcell k c else f c)) (fun _ i _ => n - (intOf i).toNat)
    case atStart => exact ⟨0, Nat.zero_le _, rfl, by go_num, World.grownBy.refl _ _, hr.congr (fun i _ => by simp)⟩
    case round =>
      obtain ⟨j, hj, rfl, rfl, hg, hrow⟩ := hrel
      by_cases hlt : j < n
      · have hc1 := hrow.cell (i := j * 2) (by omega)
        have hf1 := hrow.frozen (j * 2)
        have R1 := wrow_mark hrow (.int .i64 (k + 2 * j)) (wcell_even k j).symm
        have G1 := grown_trans hg (grown_set wr b (j * 2) (.int .i64 (k + 2 * j)))
        clear hrow hg
        go_wp2_with (fail)
        refine (markText_any _ _ (by omega) (by omega)).mono ?_
        rintro e w2 ⟨rfl, hb2⟩
        have hrow2 := R1.of_block (hb2.block b R1.lt)
        have hc2 := hrow2.cell (i := j * 2 + 1) (by omega)
        have hf2 := hrow2.frozen (j * 2 + 1)
        have hg2 := grown_trans G1 (grown_below (row := some b) hb2)
        have R := wrow_mark hrow2 (.string (mtext (k + 2 * j + 1))) (wcell_odd k j).symm
        have G := grown_trans hg2 (grown_set w2 b (j * 2 + 1) (.string (mtext (k + 2 * j + 1))))
        clear hrow2 hg2 R1 G1
        go_wp2
        go_roundw
        case rel => exact ⟨j + 1, by omega, by go_num, by go_num, G, by rw [Nat.add_mul]; exact R⟩
        case measure => simp [intOf]; omega
      · obtain rfl : j = n := by omega
        go_wp2
        go_ret
        exact ⟨rfl, hg, wrow_marks hrow hN⟩

set_option maxHeartbeats 400000 in
theorem heldWriteS_any (v : Value) (n : Nat) (k : Int) (w : World) (hv : WR w v (wmarks k n)) (h0 : 0 < k) (h1 : k + 2 * n ≤ 1000000000000000) :
    Calls Try.prog 42 #[v, .int .i64 k] w fun e w' => e = .returned (.int .i64 (k + 2 * n)) ∧ Below w.heap.size w w' := by
  obtain ⟨ao, cap, rfl, hv⟩ := hv
  rw [wmarks_length] at hv ⊢
  go_enter Try.func42, Try.ntmps42
  go_wp2
  go_loopw [1, 5] (fun c i wr => ∃ j : Nat, j ≤ n ∧ i = .int .i64 j ∧ c = .int .i64 (k + 2 * j) ∧ Below w.heap.size w wr) (fun _ i _ => n - (intOf i).toNat)
  case atStart => exact ⟨0, Nat.zero_le _, rfl, by go_num, Below.refl _ _⟩
  case round =>
    obtain ⟨j, hj, rfl, rfl, hb⟩ := hrel
    by_cases hlt : j < n
    · obtain ⟨b, o, rfl, hc, hd⟩ := hv j hlt
      rw [wmarks_get k n j hlt] at hc hd
      have hc1 := cell_later hb hc
      have hd1 := cell_later hb hd
      clear hv hc hd
      go_wp2
      go_region_with (go_at_call 52; refine (markText_any _ _ (by omega) (by omega)).mono ?_; rintro e w2 ⟨rfl, hb2⟩; have hd2 := cell_later hb2 hd1)
      all_goals go_wp2
      all_goals
        have hb3 : Below w.heap.size w w2 := hb.drew.trans (hb2.mono hb.size)
        go_roundw
        case rel => exact ⟨j + 1, by omega, by go_num, by go_num, hb3⟩
        case measure => simp [intOf]; omega
    · obtain rfl : j = n := by omega
      go_wp2
      go_ret
      exact ⟨rfl, hb⟩

set_option maxHeartbeats 400000 in
theorem markDisk_any (v1 v2 : Value) (n m : Nat) (k : Int) (w : World) (hv1 : OS w 9 1 v1 n) (hv2 : OS w 53 2 v2 m) (h0 : 0 < k) (h1 : k + n + 2 * m ≤ 1000000000000000) :
    Calls Try.prog 16 #[.agg #[v1, v2], .int .i64 k] w fun e w' => e = .returned (.int .i64 (k + n + 2 * m)) ∧ Two w w' (rowOf v1 n) (rowOf v2 m) ∧ SR w' v1 (marks k n) ∧ WR w' v2 (wmarks (k + n) m) := by
  have hap := OS.apart (by decide) hv1 hv2
  have hap' := OS.apart (by decide) hv2 hv1
  have hap2 : marks k n = [] ∨ v1.ownBlock ≠ rowOf v2 m := hap.elim (fun h => .inl (by simp [marks, h])) .inr
  clear hap
  have hb0 : Below w.heap.size w (w.alloc (.cells #[v1, v2] 30)) := (Below.refl _ _).alloc (Nat.le_refl _) _
  have hx1 := hv1.later hb0
  have hx2 := hv2.later hb0
  have hr1 := hv1.row
  go_enter Try.func16, Try.ntmps16
  go_wp2_with (fail)
  refine (markStringS_any _ n _ _ hx1 h0 (by omega)).mono ?_
  rintro e w1 ⟨rfl, hg1, hs1⟩
  have hbox : ∀ o, w1.cell? ⟨w.heap.size, o, none⟩ = (w.alloc (.cells #[v1, v2] 30)).cell? ⟨w.heap.size, o, none⟩ := fun o =>
    World.cell?_of_block (w := w.alloc (.cells #[v1, v2] 30)) (hg1.block _ (by simp) (fun e => by have := hr1 w.heap.size e.symm; omega))
  have hx3 := hx2.grown hg1 hap'
  go_wp2_with (fail)
  refine (markWriteS_any _ m _ _ hx3 (by omega) (by omega)).mono ?_
  rintro e w2 ⟨rfl, hg2, hs2⟩
  have T := Two.mk' hb0 hg1 hg2
  have hs3 := hs1.grown hg2 hap2
  go_wp2
  go_ret
  exact ⟨rfl, T, hs3, hs2⟩

set_option maxHeartbeats 400000 in
theorem heldDisk_any (v1 v2 : Value) (n m : Nat) (k : Int) (w : World) (hv1 : SR w v1 (marks k n)) (hv2 : WR w v2 (wmarks (k + n) m)) (h0 : 0 < k) (h1 : k + n + 2 * m ≤ 1000000000000000) :
    Calls Try.prog 17 #[.agg #[v1, v2], .int .i64 k] w fun e w' => e = .returned (.int .i64 (k + n + 2 * m)) ∧ Below w.heap.size w w' := by
  have hb0 : Below w.heap.size w (w.alloc (.cells #[v1, v2] 30)) := (Below.refl _ _).alloc (Nat.le_refl _) _
  go_enter Try.func17, Try.ntmps17
  go_wp2_with (fail)
  refine (heldStringS_any _ n _ _ (hv1.later hb0) h0 (by omega)).mono ?_
  rintro e w1 ⟨rfl, hb1⟩
  obtain ⟨hc, hf⟩ := bcell hb1
  have hb2 : Below w.heap.size w w1 := hb0.trans (hb1.mono (by simp))
  go_wp2_with (fail)
  refine (heldWriteS_any _ m _ _ (hv2.later hb2) (by omega) (by omega)).mono ?_
  rintro e w2 ⟨rfl, hb3⟩
  have hb4 : Below w.heap.size w w2 := bel_then hb2 hb2.size hb3
  go_wp2
  go_ret
  exact ⟨rfl, hb4⟩

end Go.Proofs.Ytkalbamigadgnaa
