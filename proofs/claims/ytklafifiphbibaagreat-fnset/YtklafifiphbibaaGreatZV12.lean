
import Derived.Test.YtklafifiphbibaaGreatZV7
import Derived.Test.YtklafifiphbibaaGreatZV6
import Derived.Test.YtklafifiphbibaaGreatZV5
/- One of two operations of a region comes up. -/
namespace Go.Proofs.YtklafifiphbibaaGreat
open Go.RowKit

section
variable {P : Program} {md : Region.Mode} {ops : Array Oper} {Q : Exit → Act → World → Prop} {R : Act → World → Prop} {S : World → Prop} {z : Nat}
/-- One of two operations comes up. -/
theorem z_or {i j fuel : Nat} {listed : Array Bool} {a : Act} {w : World} (hr : Region.ready md ops listed = [i, j])
    (h1 : wpOp P ops Q i (fun a' w' => (i = z ∨ S w') ∧ Disk.wpAnyZ P md ops Q z S fuel (listed.setIfInBounds i true) a' w') a w)
    (h2 : wpOp P ops Q j (fun a' w' => (j = z ∨ S w') ∧ Disk.wpAnyZ P md ops Q z S fuel (listed.setIfInBounds j true) a' w') a w) : Disk.wpAnyZ P md ops Q z S (fuel + 1) listed a w := by
  refine ⟨fun h0 => (by rw [hr] at h0; cases h0), fun k hk => ?_⟩
  rw [hr] at hk
  simp at hk
  rcases hk with rfl | rfl
  · exact h1
  · exact h2
theorem o_run (i d : Nat) {oi : Oper} {v : Value} {fuel : Nat} {listed : Array Bool} {T : Array Value} {D : List Deferred} {w w' : World} (hi : ops[i]? = some oi) (hd : oi.dst = some d)
    (hw : Region.wanted oi (yielded ops T) = true) (hy : (execOp (Act.eval ⟨T, D⟩) oi).run P w = .ok (.value v) w') (hS : i = z ∨ S w')
    (h : Disk.wpAnyZ P md ops (Disk.Ends R) z S fuel (listed.setIfInBounds i true) ⟨T.setIfInBounds d v, D⟩ w') : wpOp P ops (Disk.Ends R) i (fun a' w' => (i = z ∨ S w') ∧ Disk.wpAnyZ P md ops (Disk.Ends R) z S fuel (listed.setIfInBounds i true) a' w') ⟨T, D⟩ w := by
  refine Disk.wpOp_of hi hw ?_
  unfold Oper.wp
  rw [hy]
  refine ⟨hS, ?_⟩
  rw [hd]
  exact h
theorem o_call (i d : Nat) {oi : Oper} {f : FuncId} {args : Array Value} {fuel : Nat} {listed : Array Bool} {T : Array Value} {D : List Deferred} {w w0 : World} (hi : ops[i]? = some oi) (hd : oi.dst = some d)
    (hw : Region.wanted oi (yielded ops T) = true) (hy : (execOp (Act.eval ⟨T, D⟩) oi).run P w = .ok (.enter f args) w0)
    (h : Calls P f args w0 fun e w' => ∃ v, e = .returned v ∧ (i = z ∨ S w') ∧ Disk.wpAnyZ P md ops (Disk.Ends R) z S fuel (listed.setIfInBounds i true) ⟨T.setIfInBounds d v, D⟩ w') : wpOp P ops (Disk.Ends R) i (fun a' w' => (i = z ∨ S w') ∧ Disk.wpAnyZ P md ops (Disk.Ends R) z S fuel (listed.setIfInBounds i true) a' w') ⟨T, D⟩ w := by
  refine Disk.wpOp_of hi hw ?_
  unfold Oper.wp
  rw [hy]
  refine h.mono ?_
  rintro e w' ⟨v, rfl, hS, h⟩
  refine ⟨hS, ?_⟩
  rw [hd]
  exact h
end

end Go.Proofs.YtklafifiphbibaaGreat

/- Does an address lie in what the scavenger leaves? l9From of the model. -/
namespace Go.Proofs.YtklafifiphbibaaGreat
open Go.RowKit

set_option maxHeartbeats 1600000 in
theorem l9From_any (v : Value) (h : Hp) (x : Int) (w : World) (hv : HR w v h) :
    Calls Tryz.prog 127 #[v, .int .i64 x] w fun e w' => e = .returned (.bool (frB h x)) ∧ Below w.heap.size w w' := by
  obtain ⟨v1, v2, v3, rfl, -, -, -⟩ := id hv
  have hb0 := bel_one w (.cells #[v1, v2, .int .i64 h.old, .int .i64 h.eden, .int .i64 h.surv, .bool h.flip, .int .i64 h.hash, v3] 26)
  have LS := fun W => l5Surv_any h.flip W
  have sb : survB h.flip ≤ 2900 := by unfold survB; split <;> omega
  have FB : Hid (frB h x = (decide (2000 ≤ x ∧ x < 2600) || decide ((survB h.flip : Int) ≤ x ∧ x < (survB h.flip : Int) + 300))) := (rfl : _ = _)
  generalize frB h x = r at *
  generalize survB h.flip = s at *
  clear hv
  by_cases h1 : 2000 ≤ x <;> by_cases h2 : x < 2600 <;> by_cases h3 : (s : Int) ≤ x <;> by_cases h4 : x < (s : Int) + 300
  all_goals first | (exfalso; omega) | (
    go_enter Tryz.func127, Tryz.ntmps127
    go_wp2_with (go_at_call 55; refine (LS _).mono ?_; rintro e wq ⟨rfl, hq⟩; obtain rfl := hq.symm)
    go_ret
    exact ⟨wret_bool (by rw [FB.out]; first | (simp [h1, h2, h3, h4]; done) | (simp [h1, h2, h3, h4]; omega)), hb0⟩)

end Go.Proofs.YtklafifiphbibaaGreat
