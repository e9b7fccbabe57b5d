
import Derived.Test.YtboiknllmnfipaaDoorZU10
import Derived.Test.YtboiknllmnfipaaDoorZU4
import Derived.Test.YtboiknllmnfipaaDoorZMSAdd
import Derived.Test.YtboiknllmnfipaaDoorZU6
/- Does an address lie in what the scavenger leaves? l9From of the model. -/
namespace Go.Proofs.YtboiknllmnfipaaDoor
open Go.RowKit

set_option maxHeartbeats 1600000 in
theorem l9From_any (v : Value) (h : Hp) (x : Int) (w : World) (hv : HR w v h) :
    Calls Tryd.prog 53 #[v, .int .i64 x] w fun e w' => e = .returned (.bool (frB h x)) ∧ Below w.heap.size w w' := by
  obtain ⟨v1, v2, v3, rfl, -, -, -⟩ := id hv
  have hb0 := bel_one w (.cells #[v1, v2, .int .i64 h.old, .int .i64 h.eden, .int .i64 h.surv, .bool h.flip, .int .i64 h.hash, v3] 45)
  have LS := fun W => l5Surv_any h.flip W
  have sb : survB h.flip ≤ 2900 := by unfold survB; split <;> omega
  have FB : Hid (frB h x = (decide (2000 ≤ x ∧ x < 2600) || decide ((survB h.flip : Int) ≤ x ∧ x < (survB h.flip : Int) + 300))) := (rfl : _ = _)
  generalize frB h x = r at *
  generalize survB h.flip = s at *
  clear hv
  by_cases h1 : 2000 ≤ x <;> by_cases h2 : x < 2600 <;> by_cases h3 : (s : Int) ≤ x <;> by_cases h4 : x < (s : Int) + 300
  all_goals first | (exfalso; omega) | (
    go_enter Tryd.func53, Tryd.ntmps53
    go_wp2_with (go_at_call 36; refine (LS _).mono ?_; rintro e wq ⟨rfl, hq⟩; obtain rfl := hq.symm)
    go_ret
    exact ⟨wret_bool (by rw [FB.out]; first | (simp [h1, h2, h3, h4]; done) | (simp [h1, h2, h3, h4]; omega)), hb0⟩)

end Go.Proofs.YtboiknllmnfipaaDoor

/- l8At, Get, ClassOf and HashOf of the model. -/
namespace Go.Proofs.YtboiknllmnfipaaDoor
open Go.RowKit

noncomputable def atC (h : Hp) (x : Int) : Int := if refB h x = true then x / 2 else -1
theorem ref_even {h : Hp} {x : Int} (k : x % 2 = 0) : refB h x = false := by
  unfold refB
  rw [show decide (kindW x = 2) = false from (wok_kind_even k).2]
  rfl
theorem ref_odd {h : Hp} {x : Int} (k : ¬ x % 2 = 0) : refB h x = (wokB x && isC h (x / 2)) := by
  unfold refB
  rw [show decide (kindW x = 2) = wokB x from (wok_kind_odd k).1]
  rfl

set_option maxRecDepth 100000 in
set_option maxHeartbeats 1600000 in
theorem l8At_c (v : Value) (h : Hp) (x : Int) (w : World) (hv : HR w v h) (hk : okC h = true) (hx : In64 x) :
    Calls Tryd.prog 42 #[v, .int .i64 x] w fun e w' => e = .returned (.int .i64 (atC h x)) ∧ Below w.heap.size w w' := by
  obtain ⟨v1, v2, v3, rfl, i1, i2, i3⟩ := id hv
  have hb0 := bel_one w (.cells #[v1, v2, .int .i64 h.old, .int .i64 h.eden, .int .i64 h.surv, .bool h.flip, .int .i64 h.hash, v3] 45)
  have WO := fun W => specWordOk_any x W
  obtain ⟨hx1, hx2⟩ := hx
  clear i1 i2 i3
  cases hwo : wokB x
  · have FE : Hid (atC h x = -1) := (by
      unfold atC
      by_cases e : x % 2 = 0
      · rw [ref_even e]; rfl
      · rw [ref_odd e, hwo]; rfl : atC h x = -1)
    rw [hwo] at WO
    go_enter Tryd.func42, Tryd.ntmps42
    go_wp2_with (go_at_call 49; refine (WO _).mono ?_; rintro e wq ⟨rfl, hq⟩; obtain rfl := hq.symm)
    go_ret
    exact ⟨wret_int FE.out.symm, hb0⟩
  · rw [hwo] at WO
    by_cases he : x % 2 = 0
    · have FE : Hid (atC h x = -1) := (by unfold atC; rw [ref_even he]; rfl : atC h x = -1)
      have tm : (x.tmod 2 == 0) = true := by rw [tmod_two, decide_eq_true he]
      go_enter Tryd.func42, Tryd.ntmps42
      go_wp2_with (go_at_call 49; refine (WO _).mono ?_; rintro e wq ⟨rfl, hq⟩; obtain rfl := hq.symm)
      go_ret
      exact ⟨wret_int FE.out.symm, hb0⟩
    · have FE : Hid (atC h x = if isC h (x / 2) = true then x / 2 else -1) := (by unfold atC; rw [ref_odd he, hwo, Bool.true_and] : atC h x = if isC h (x / 2) = true then x / 2 else -1)
      have tm : (x.tmod 2 == 0) = false := by rw [tmod_two, decide_eq_false he]
      have hp : 1 ≤ x := by
        rw [wok_odd he] at hwo
        exact (of_decide_eq_true hwo).1
      have td := tdiv_pos hp
      have IS := l5Is_c _ h (x / 2) _ (hv.later hb0) hk
      have wd : IntKind.i64.wrap (x / 2) = x / 2 := by rw [IntKind.wrap_i64]; omega
      cases hi : isC h (x / 2)
      · rw [hi] at IS FE
        go_enter Tryd.func42, Tryd.ntmps42
        go_wp2_with (first
          | (go_at_call 49; refine (WO _).mono ?_; rintro e wq ⟨rfl, hq⟩; obtain rfl := hq.symm)
          | (go_at_call 51; refine IS.mono ?_; rintro e w1 ⟨rfl, hb1⟩))
        go_ret
        exact ⟨wret_int FE.out.symm, bel_after hb0 hb1⟩
      · rw [hi] at IS FE
        go_enter Tryd.func42, Tryd.ntmps42
        go_wp2_with (first
          | (go_at_call 49; refine (WO _).mono ?_; rintro e wq ⟨rfl, hq⟩; obtain rfl := hq.symm)
          | (go_at_call 51; refine IS.mono ?_; rintro e w1 ⟨rfl, hb1⟩))
        go_ret
        exact ⟨wret_int FE.out.symm, bel_after hb0 hb1⟩




end Go.Proofs.YtboiknllmnfipaaDoor
