/- Texts and late writes held against each other: eqStringS, eqWrite, eqWriteS, eqDisk. -/
import Derived.Test.YtkalbamigadgnaaRows
import Derived.Test.YtkalbamigadgnaaPlain
import Derived.Deep.RegionWith
namespace Go.Proofs.Ytkalbamigadgnaa
open Go.RowKit

set_option maxHeartbeats 400000 in
theorem eqStringS_any (v u : Value) (ss tt : List ByteArray) (w : World) (hv : SR w v ss) (hu : SR w u tt) (h1 : ss.length ≤ 1000000000000000) (_h2 : tt.length ≤ 1000000000000000) :
    Calls Try.prog 37 #[v, u] w fun e w' => e = .returned (.bool (decide (ss = tt))) ∧ Below w.heap.size w w' := by
  obtain ⟨ao, cap, rfl, hv⟩ := hv
  obtain ⟨bo, cbp, rfl, hu⟩ := hu
  by_cases hl : ss.length = tt.length
  · have hl' : ((ss.length : Int) != (tt.length : Int)) = false := by simp [hl]
    have HL : Hid (ss.length = tt.length) := hl
    go_enter Try.func37, Try.ntmps37
    go_wp2
    go_loopw [5] (fun a wr => ∃ (k : Nat), a = .int .i64 k ∧ k ≤ ss.length ∧ Hid (∀ j, j < k → ss.getD j ByteArray.empty = tt.getD j ByteArray.empty) ∧ ∃ n, wr = w.drewN n) (fun a _ => (ss.length - (intOf a).toNat))
    case atStart => exact ⟨0, rfl, Nat.zero_le _, fun j hj => absurd hj (by omega), 0, rfl⟩
    case round =>
      obtain ⟨k, rfl, hk, hj, n, rfl⟩ := hrel
      by_cases hlt : k < ss.length
      · obtain ⟨b, o, rfl, hc⟩ := hv k hlt
        obtain ⟨b', o', rfl, hc'⟩ := hu k (by omega)
        have hlt' : k < tt.length := by omega
        generalize hs : ss.getD k ByteArray.empty = s at *
        generalize ht : tt.getD k ByteArray.empty = t at *
        have HS : Hid (ss.getD k ByteArray.empty = s) := hs
        have HT : Hid (tt.getD k ByteArray.empty = t) := ht
        clear hs ht hv hu hl
        go_wp2
        go_region
        all_goals go_wp2
        · have hne := str_ne (by assumption)
          go_ret
          exact ⟨ret_bool (decide_eq_false (fun e => hne (by rw [← HS.out, ← HT.out, e]))).symm, below_drewN (Below.refl _ _) _⟩
        · have he := str_eq (by assumption)
          go_roundw
          case rel => exact ⟨k + 1, by go_num, by omega, all_upto hj.out (by rw [HS.out, HT.out, he]), _, rfl⟩
          case measure => simp [intOf]; omega
      · go_wp2
        go_ret
        exact ⟨ret_bool (decide_eq_true (lists_eq hl (fun j hj' => hj.out j (by omega)))).symm, below_drewN (Below.refl _ _) _⟩
  · have hl' : ((ss.length : Int) != (tt.length : Int)) = true := by simp; omega
    go_enter Try.func37, Try.ntmps37
    go_wp2
    go_ret
    exact ⟨ret_bool (decide_eq_false (fun e => hl (by rw [e]))).symm, Below.refl _ _⟩

set_option maxHeartbeats 400000 in
theorem eqWrite_any (a b : Int) (s t : ByteArray) (w : World) :
    Calls Try.prog 51 #[.agg #[.int .i64 a, .string s], .agg #[.int .i64 b, .string t]] w fun e w' => e = .returned (.bool (decide ((a, s) = (b, t)))) ∧ Below w.heap.size w w' := by
  go_enter Try.func51, Try.ntmps51
  go_wp2
  all_goals go_ret
  all_goals refine ⟨ret_bool ?_, ((Below.refl _ _).alloc (Nat.le_refl _) _).alloc (by simp) _⟩
  · have h : a ≠ b := by simpa using ‹(a != b) = true›
    simp [h]
  · have h : s ≠ t := str_ne (by assumption)
    simp [h]
  · have h : s = t := str_eq (by assumption)
    have h' : a = b := by simpa using ‹(a != b) = false›
    simp [h, h']

theorem pair_ne {s1 t1 : Int} {s2 t2 : ByteArray} (h : (!decide (s1 = t1)) = true ∨ (!decide (s2 = t2)) = true) : ¬ ((s1, s2) : Wr) = (t1, t2) := by
  intro e
  cases e
  simp at h

theorem pair_eq {s1 t1 : Int} {s2 t2 : ByteArray} (h : (!decide (s1 = t1)) = false ∧ (!decide (s2 = t2)) = false) : ((s1, s2) : Wr) = (t1, t2) := by
  obtain ⟨h1, h2⟩ := h
  simp at h1 h2
  rw [h1, h2]

set_option maxHeartbeats 400000 in
theorem eqWriteS_any (v u : Value) (ss tt : List Wr) (w : World) (hv : WR w v ss) (hu : WR w u tt) (h1 : ss.length ≤ 1000000000000000) (_h2 : tt.length ≤ 1000000000000000) :
    Calls Try.prog 38 #[v, u] w fun e w' => e = .returned (.bool (decide (ss = tt))) ∧ Below w.heap.size w w' := by
  obtain ⟨ao, cap, rfl, hv⟩ := hv
  obtain ⟨bo, cbp, rfl, hu⟩ := hu
  by_cases hl : ss.length = tt.length
  · have hl' : ((ss.length : Int) != (tt.length : Int)) = false := by simp [hl]
    have HL : Hid (ss.length = tt.length) := hl
    go_enter Try.func38, Try.ntmps38
    go_wp2
    go_loopw [5] (fun a wr => ∃ (k : Nat), a = .int .i64 k ∧ k ≤ ss.length ∧ Hid (∀ j, j < k → ss.getD j wr0 = tt.getD j wr0) ∧ Below w.heap.size w wr) (fun a _ => (ss.length - (intOf a).toNat))
    case atStart => exact ⟨0, rfl, Nat.zero_le _, fun j hj => absurd hj (by omega), Below.refl _ _⟩
    case round =>
      obtain ⟨k, rfl, hk, hj, hb⟩ := hrel
      by_cases hlt : k < ss.length
      · obtain ⟨b, o, rfl, hc, hd⟩ := hv k hlt
        obtain ⟨b', o', rfl, hc', hd'⟩ := hu k (by omega)
        have hlt' : k < tt.length := by omega
        generalize hs : ss.getD k wr0 = s at *
        generalize ht : tt.getD k wr0 = t at *
        have HS : Hid (ss.getD k wr0 = s) := hs
        have HT : Hid (tt.getD k wr0 = t) := ht
        obtain ⟨s1, s2⟩ := s
        obtain ⟨t1, t2⟩ := t
        have g1 := cell_later hb hc
        have g2 := cell_later hb hd
        have g3 := cell_later hb hc'
        have g4 := cell_later hb hd'
        clear hs ht hv hu hl hc hd hc' hd'
        go_wp2
        go_region_with (go_at_call 51; refine (eqWrite_any _ _ _ _ _).mono ?_; rintro e w' ⟨rfl, hb'⟩)
        all_goals go_wp2
        all_goals first
          | (have hne : (!decide (s1 = t1)) = true ∨ (!decide (s2 = t2)) = true := by assumption
             have hb2 : Below w.heap.size w w' := hb.drew.trans (hb'.mono hb.size)
             go_ret
             exact ⟨ret_bool (decide_eq_false (fun e => pair_ne hne (by rw [← HS.out, ← HT.out, e]))).symm, hb2⟩)
          | (have he : (!decide (s1 = t1)) = false ∧ (!decide (s2 = t2)) = false := by assumption
             have hb2 : Below w.heap.size w w' := hb.drew.trans (hb'.mono hb.size)
             go_roundw
             case rel => exact ⟨k + 1, by go_num, by omega, all_upto hj.out (by rw [HS.out, HT.out, pair_eq he]), hb2⟩
             case measure => simp [intOf]; omega)
      · go_wp2
        go_ret
        exact ⟨ret_bool (decide_eq_true (wlists_eq hl (fun j hj' => hj.out j (by omega)))).symm, hb⟩
  · have hl' : ((ss.length : Int) != (tt.length : Int)) = true := by simp; omega
    go_enter Try.func38, Try.ntmps38
    go_wp2
    go_ret
    exact ⟨ret_bool (decide_eq_false (fun e => hl (by rw [e]))).symm, Below.refl _ _⟩

/-- A disk's value reads as these sectors and late writes. -/
def DR (w : World) (v : Value) (ss : List ByteArray) (ws : List Wr) : Prop :=
  ∃ v1 v2, v = .agg #[v1, v2] ∧ SR w v1 ss ∧ WR w v2 ws ∧ ss.length ≤ 1000000000000000 ∧ ws.length ≤ 1000000000000000

set_option maxHeartbeats 400000 in
theorem eqDisk_any (v u : Value) (ss tt : List ByteArray) (ws us : List Wr) (w : World) (hv : DR w v ss ws) (hu : DR w u tt us) :
    Calls Try.prog 13 #[v, u] w fun e w' => e = .returned (.bool (decide (ss = tt ∧ ws = us))) ∧ Below w.heap.size w w' := by
  obtain ⟨v1, v2, rfl, hv1, hv2, hl1, hl2⟩ := hv
  obtain ⟨u1, u2, rfl, hu1, hu2, hl3, hl4⟩ := hu
  have hb0 := bel_two w (.cells #[v1, v2] 30) (.cells #[u1, u2] 30)
  go_enter Try.func13, Try.ntmps13
  go_wp2_with (fail)
  refine (eqStringS_any _ _ ss tt _ (hv1.later hb0) (hu1.later hb0) hl1 hl3).mono ?_
  rintro e w1 ⟨rfl, hb1⟩
  obtain ⟨hc, hf⟩ := bcell hb1
  have hb2 : Below w.heap.size w w1 := hb0.trans (hb1.mono (by simp; omega))
  by_cases h : ss = tt
  · subst h
    go_wp2_with (fail)
    refine (eqWriteS_any _ _ ws us _ (hv2.later hb2) (hu2.later hb2) hl2 hl4).mono ?_
    rintro e w2 ⟨rfl, hb3⟩
    have hb4 : Below w.heap.size w w2 := bel_then hb2 hb2.size hb3
    by_cases h' : ws = us
    · subst h'
      go_wp2
      go_ret
      exact ⟨ret_bool (by simp), hb4⟩
    · go_wp2
      go_ret
      exact ⟨ret_bool (by simp), hb4⟩
  · go_wp2
    go_ret
    exact ⟨ret_bool (by simp [h]), hb2⟩

end Go.Proofs.Ytkalbamigadgnaa
