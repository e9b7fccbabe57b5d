/- eqBoolS, markBoolS: slices of flags held against each other, and marked. -/
import Derived.Test.YtfcenohgfhefiaaGreatDoorZDBools
namespace Go.Proofs.YtfcenohgfhefiaaGreatDoor.Disk
open Go.RowKit

theorem blists_eq {ss tt : List Bool} (hl : ss.length = tt.length) (h : ∀ j, j < ss.length → ss.getD j false = tt.getD j false) : ss = tt := by
  refine List.ext_getElem hl fun i h1 h2 => ?_
  have := h i h1
  simpa [List.getD_eq_getElem?_getD, h1, h2] using this

set_option maxHeartbeats 400000 in
theorem eqBoolS_any (v u : Value) (ss tt : List Bool) (w : World) (hv : LR w v ss) (hu : LR w u tt) (h1 : ss.length ≤ 1000000000000000) (_h2 : tt.length ≤ 1000000000000000) :
    Calls Tryz.prog 45 #[v, u] w fun e w' => e = .returned (.bool (decide (ss = tt))) ∧ Below w.heap.size w w' := by
  obtain ⟨ao, cap, rfl, hv⟩ := hv
  obtain ⟨bo, cbp, rfl, hu⟩ := hu
  by_cases hl : ss.length = tt.length
  · have hl' : ((ss.length : Int) != (tt.length : Int)) = false := by simp [hl]
    have HL : Hid (ss.length = tt.length) := hl
    go_enter Tryz.func45, Tryz.ntmps45
    go_wp2
    go_loopw [5] (fun a wr => ∃ (k : Nat), a = .int .i64 k ∧ k ≤ ss.length ∧ Hid (∀ j, j < k → ss.getD j false = tt.getD j false) ∧ ∃ n, wr = w.drewN n) (fun a _ => (ss.length - (intOf a).toNat))
    case atStart => exact ⟨0, rfl, Nat.zero_le _, fun j hj => absurd hj (by omega), 0, rfl⟩
    case round =>
      obtain ⟨k, rfl, hk, hj, n, rfl⟩ := hrel
      by_cases hlt : k < ss.length
      · obtain ⟨b, o, rfl, hc⟩ := hv k hlt
        obtain ⟨b', o', rfl, hc'⟩ := hu k (by omega)
        have hlt' : k < tt.length := by omega
        generalize hs : ss.getD k false = s at *
        generalize ht : tt.getD k false = t at *
        have HS : Hid (ss.getD k false = s) := hs
        have HT : Hid (tt.getD k false = t) := ht
        clear hs ht hv hu hl
        by_cases hst : s = t
        · subst hst
          go_wp2
          go_region
          all_goals go_wp2
          all_goals
            go_roundw
            case rel => exact ⟨k + 1, by go_num, by omega, all_upto hj.out (by rw [HS.out, HT.out]), _, rfl⟩
            case measure => simp [intOf]; omega
        · cases s <;> cases t
          · exact absurd rfl hst
          · go_wp2
            go_region
            all_goals go_wp2
            all_goals
              go_ret
              exact ⟨ret_bool (decide_eq_false (fun e => hst (HS.out.symm.trans ((congrArg (fun l => List.getD l k false) e).trans HT.out)))).symm, below_drewN (Below.refl _ _) _⟩
          · go_wp2
            go_region
            all_goals go_wp2
            all_goals
              go_ret
              exact ⟨ret_bool (decide_eq_false (fun e => hst (HS.out.symm.trans ((congrArg (fun l => List.getD l k false) e).trans HT.out)))).symm, below_drewN (Below.refl _ _) _⟩
          · exact absurd rfl hst
      · go_wp2
        go_ret
        exact ⟨ret_bool (decide_eq_true (blists_eq hl (fun j hj' => hj.out j (by omega)))).symm, below_drewN (Below.refl _ _) _⟩
  · have hl' : ((ss.length : Int) != (tt.length : Int)) = true := by simp; omega
    go_enter Tryz.func45, Tryz.ntmps45
    go_wp2
    go_ret
    exact ⟨ret_bool (decide_eq_false (fun e => hl (by rw [e]))).symm, Below.refl _ _⟩

set_option maxHeartbeats 400000 in
theorem markBoolS_any (v : Value) (n : Nat) (k : Int) (w : World) (hv : OS w 4 1 v n) (h0 : 0 < k) (h1 : k + n ≤ 1000000000000000) :
    Calls Tryz.prog 46 #[v, .int .i64 k] w fun e w' => e = .returned (.int .i64 (k + n)) ∧ w.grownBy w' (rowOf v n) := by
  obtain ⟨ao, cap, rfl, hv⟩ := hv
  by_cases hn : n = 0
  · subst hn
    go_enter Tryz.func46, Tryz.ntmps46
    go_wp2
    refine wp_loop_rounds 1 ?_
    rw [rounds_succ]
    go_wp2
    go_ret
    exact ⟨ret_int (by simp), World.grownBy.refl _ _⟩
  · obtain ⟨b, N, f, rfl, hN, hr⟩ := hv.resolve_left hn
    have hro : rowOf (.slice (some ⟨b, 0, none⟩) n cap) n = some b := by simp [rowOf, hn, Value.ownBlock]
    rw [hro]
    rw [Nat.mul_one] at hN
    clear hv hro
    go_enter Tryz.func46, Tryz.ntmps46
    go_wp2
    go_loopw [1, 5] (fun c i wr => ∃ j : Nat, j ≤ n ∧ i = .int .i64 j ∧ c = .int .i64 (k + j) ∧ w.grownBy wr (some b) ∧ ∃ f : Nat → Value, wr.rowIs b 4 N f) (fun _ i _ => n - (intOf i).toNat)
    case atStart => exact ⟨0, Nat.zero_le _, rfl, by go_num, World.grownBy.refl _ _, f, hr⟩
    case round =>
      obtain ⟨j, hj, rfl, rfl, hg, g, hrow⟩ := hrel
      by_cases hlt : j < n
      · have hc2 := hrow.cell (i := j) (by omega)
        have hf2 := hrow.frozen j
        have HR : Hid (∀ x : Value, ∃ f : Nat → Value, World.rowIs (World.setCell _ ⟨b, j, none⟩ x) b 4 N f) := fun x => ⟨_, hrow.set j x⟩
        have HG : Hid (∀ x : Value, w.grownBy (World.setCell _ ⟨b, j, none⟩ x) (some b)) := fun x => grown_trans hg (grown_set _ b j x)
        clear hrow hg
        go_wp2
        go_roundw
        case rel => exact ⟨j + 1, by omega, by go_num, by go_num, HG.out _, HR.out _⟩
        case measure => simp [intOf]; omega
      · obtain rfl : j = n := by omega
        go_wp2
        go_ret
        exact ⟨rfl, hg⟩

end Go.Proofs.YtfcenohgfhefiaaGreatDoor.Disk
