/- l7Word and AddRoot of the model. -/
import Derived.Test.YtfbnjdlnmnhjoaaGreatZMCopy5
import Derived.Test.YtfbnjdlnmnhjoaaGreatZMINew
import Derived.Test.YtfbnjdlnmnhjoaaGreatZHM
namespace Go.Proofs.YtfbnjdlnmnhjoaaGreat
open Go.RowKit

theorem fit_even {l : List Nat} {x : Int} (h : x % 2 = 0) : fitB l x = wokB x := by
  have := wok_kind_even h
  unfold fitB
  rw [show decide (kindW x = 2) = false from this.2, show decide (kindW x = 1) = wokB x from this.1]
  simp
theorem fit_odd {l : List Nat} {x : Int} (h : ¬ x % 2 = 0) : fitB l x = (wokB x && (ints l).contains (x / 2)) := by
  have := wok_kind_odd h
  unfold fitB
  rw [show decide (kindW x = 1) = false from this.2, show decide (kindW x = 2) = wokB x from this.1]
  simp
theorem tdiv_pos {x : Int} (h : 1 ≤ x) : x.tdiv 2 = x / 2 := Int.tdiv_eq_ediv_of_nonneg (by omega)

set_option maxRecDepth 100000 in
set_option maxHeartbeats 1600000 in
theorem l7Word_c (v : Value) (h : Hp) (x : Int) (w : World) (hv : HR w v h) (hk : okC h = true) (hx : In64 x) :
    Calls Tryz.prog 13 #[v, .int .i64 x] w fun e w' => e = .returned (.bool (fitB (obC h) x)) ∧ Below w.heap.size w w' := by
  obtain ⟨v1, v2, v3, rfl, i1, i2, i3⟩ := id hv
  have hb0 := bel_one w (.cells #[v1, v2, .int .i64 h.old, .int .i64 h.eden, .int .i64 h.surv, .bool h.flip, .int .i64 h.hash, v3] 26)
  have WO := fun W => specWordOk_any x W
  obtain ⟨hx1, hx2⟩ := hx
  clear i1 i2 i3
  cases hwo : wokB x
  · have FE : Hid (fitB (obC h) x = false) := (by
      by_cases e : x % 2 = 0
      · rw [fit_even e, hwo]
      · rw [fit_odd e, hwo]; rfl : fitB (obC h) x = false)
    rw [hwo] at WO
    go_enter Tryz.func13, Tryz.ntmps13
    go_wp2_with (go_at_call 35; refine (WO _).mono ?_; rintro e wq ⟨rfl, hq⟩; obtain rfl := hq.symm)
    go_ret
    exact ⟨wret_bool FE.out.symm, hb0⟩
  · rw [hwo] at WO
    by_cases he : x % 2 = 0
    · have FE : Hid (fitB (obC h) x = true) := ((fit_even he).trans hwo : fitB (obC h) x = true)
      have tm : (x.tmod 2 == 0) = true := by rw [tmod_two, decide_eq_true he]
      go_enter Tryz.func13, Tryz.ntmps13
      go_wp2_with (go_at_call 35; refine (WO _).mono ?_; rintro e wq ⟨rfl, hq⟩; obtain rfl := hq.symm)
      go_ret
      exact ⟨wret_bool FE.out.symm, hb0⟩
    · have FE : Hid (fitB (obC h) x = isC h (x / 2)) := (by rw [fit_odd he, hwo]; rfl : fitB (obC h) x = isC h (x / 2))
      have tm : (x.tmod 2 == 0) = false := by rw [tmod_two, decide_eq_false he]
      have hp : 1 ≤ x := by
        rw [wok_odd he] at hwo
        exact (of_decide_eq_true hwo).1
      have td := tdiv_pos hp
      have IS := l5Is_c _ h (x / 2) _ (hv.later hb0) hk
      have wd : IntKind.i64.wrap (x / 2) = x / 2 := by rw [IntKind.wrap_i64]; omega
      go_enter Tryz.func13, Tryz.ntmps13
      go_wp2_with (first
        | (go_at_call 35; refine (WO _).mono ?_; rintro e wq ⟨rfl, hq⟩; obtain rfl := hq.symm)
        | (go_at_call 36; refine IS.mono ?_; rintro e w1 ⟨rfl, hb1⟩))
      go_ret
      exact ⟨wret_bool (by rw [FE.out, show (x % 2 == 0) = false from by simp [he]]; rfl), bel_after hb0 hb1⟩



end Go.Proofs.YtfbnjdlnmnhjoaaGreat
