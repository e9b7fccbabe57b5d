/- szStringS, szWrite, szWriteS, szDisk: each answers a number, and makes memory of its own alone. -/
import Derived.Test.YtkalbamigadgnaaRows
import Derived.Test.YtkalbamigadgnaaPlain
namespace Go.Proofs.Ytkalbamigadgnaa
open Go.RowKit

set_option maxHeartbeats 400000 in
theorem szStringS_any (v : Value) (ss : List ByteArray) (x : Int) (w : World) (hv : SR w v ss) (h1 : ss.length ≤ 1000000000000000) :
    Calls Try.prog 29 #[v, .int .i64 x] w fun e w' => (∃ y, e = .returned (.int .i64 y)) ∧ Below w.heap.size w w' := by
  obtain ⟨ao, cap, rfl, hv⟩ := hv
  go_enter Try.func29, Try.ntmps29
  go_wp2
  · go_ret
    exact ⟨⟨_, rfl⟩, Below.refl _ _⟩
  go_loopw [1, 5] (fun c i wr => ∃ (j : Nat) (y : Int), j ≤ ss.length ∧ i = .int .i64 j ∧ c = .int .i64 y ∧ Below w.heap.size w wr) (fun _ i _ => ss.length - (intOf i).toNat)
  case atStart => exact ⟨0, _, Nat.zero_le _, rfl, rfl, Below.refl _ _⟩
  case round =>
    obtain ⟨j, y, hj, rfl, rfl, hb⟩ := hrel
    by_cases hlt : j < ss.length
    · obtain ⟨b, o, rfl, hc⟩ := hv j hlt
      have hc1 := cell_later hb hc
      generalize ss.getD j ByteArray.empty = s at *
      clear hv hc
      go_wp2
      · go_ret
        exact ⟨⟨_, rfl⟩, hb⟩
      · go_roundw
        case rel => exact ⟨j + 1, _, by omega, by go_num, rfl, hb⟩
        case measure => simp [intOf]; omega
    · go_wp2
      go_ret
      exact ⟨⟨_, rfl⟩, hb⟩

set_option maxHeartbeats 400000 in
theorem szWrite_any (a : Int) (s : ByteArray) (x : Int) (w : World) :
    Calls Try.prog 48 #[.agg #[.int .i64 a, .string s], .int .i64 x] w fun e w' => (∃ y, e = .returned (.int .i64 y)) ∧ Below w.heap.size w w' := by
  go_enter Try.func48, Try.ntmps48
  go_wp2
  all_goals
    go_ret
    exact ⟨⟨_, rfl⟩, (Below.refl _ _).alloc (Nat.le_refl _) _⟩

set_option maxHeartbeats 400000 in
theorem szWriteS_any (v : Value) (ws : List Wr) (x : Int) (w : World) (hv : WR w v ws) (h1 : ws.length ≤ 1000000000000000) :
    Calls Try.prog 30 #[v, .int .i64 x] w fun e w' => (∃ y, e = .returned (.int .i64 y)) ∧ Below w.heap.size w w' := by
  obtain ⟨ao, cap, rfl, hv⟩ := hv
  go_enter Try.func30, Try.ntmps30
  go_wp2
  · go_ret
    exact ⟨⟨_, rfl⟩, Below.refl _ _⟩
  go_loopw [1, 5] (fun c i wr => ∃ (j : Nat) (y : Int), j ≤ ws.length ∧ i = .int .i64 j ∧ c = .int .i64 y ∧ Below w.heap.size w wr) (fun _ i _ => ws.length - (intOf i).toNat)
  case atStart => exact ⟨0, _, Nat.zero_le _, rfl, rfl, Below.refl _ _⟩
  case round =>
    obtain ⟨j, y, hj, rfl, rfl, hb⟩ := hrel
    by_cases hlt : j < ws.length
    · obtain ⟨b, o, rfl, hc, hd⟩ := hv j hlt
      have hc1 := cell_later hb hc
      have hd1 := cell_later hb hd
      generalize ws.getD j wr0 = s at *
      obtain ⟨s1, s2⟩ := s
      clear hv hc hd
      go_wp2_with (fail)
      refine (szWrite_any _ _ _ _).mono ?_
      rintro e w2 ⟨⟨z, rfl⟩, hb2⟩
      have hb3 := bel_then hb hb.size hb2
      go_wp2
      · go_ret
        exact ⟨⟨_, rfl⟩, hb3⟩
      · go_roundw
        case rel => exact ⟨j + 1, _, by omega, by go_num, rfl, hb3⟩
        case measure => simp [intOf]; omega
    · go_wp2
      go_ret
      exact ⟨⟨_, rfl⟩, hb⟩

set_option maxHeartbeats 400000 in
theorem szDisk_any (v1 v2 : Value) (ss : List ByteArray) (ws : List Wr) (x : Int) (w : World) (hv1 : SR w v1 ss) (hv2 : WR w v2 ws) (h1 : ss.length ≤ 1000000000000000) (h2 : ws.length ≤ 1000000000000000) :
    Calls Try.prog 9 #[.agg #[v1, v2], .int .i64 x] w fun e w' => (∃ y, e = .returned (.int .i64 y)) ∧ Below w.heap.size w w' := by
  have hb0 := bel_one w (.cells #[v1, v2] 25)
  go_enter Try.func9, Try.ntmps9
  go_wp2_with (fail)
  refine (szStringS_any _ ss _ _ (hv1.later hb0) h1).mono ?_
  rintro e w1 ⟨⟨y, rfl⟩, hb1⟩
  obtain ⟨hc, hf⟩ := bcell hb1
  have hb2 : Below w.heap.size w w1 := hb0.trans (hb1.mono (by simp))
  by_cases hy : y < 0
  · go_wp2
    go_ret
    exact ⟨⟨_, rfl⟩, hb2⟩
  · go_wp2_with (fail)
    refine (szWriteS_any _ ws _ _ (hv2.later hb2) h2).mono ?_
    rintro e w2 ⟨⟨z, rfl⟩, hb3⟩
    have hb4 := bel_then hb2 hb2.size hb3
    go_wp2
    all_goals
      go_ret
      exact ⟨⟨_, rfl⟩, hb4⟩

end Go.Proofs.Ytkalbamigadgnaa
