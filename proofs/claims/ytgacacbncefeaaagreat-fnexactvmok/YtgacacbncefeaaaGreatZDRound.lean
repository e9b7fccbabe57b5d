/- A drawing region in a round of a range over a function, by the laws of a region outside of one: where no operation defers. -/
import Derived.Deep.RegionHeld
import Derived.RangeFuncCalls
import Derived.OrdersIn
import Derived.TacticsIn
namespace Go.Proofs.YtgacacbncefeaaaGreat.Disk
open Go

/-- No operation of the region defers. -/
def noDefer (ops : Array Oper) : Bool := ops.toList.all fun o => match o.op with | .defer _ => false | _ => true

theorem noDefer_spec {ops : Array Oper} (h : noDefer ops = true) {i : Nat} {o : Oper} (ho : ops[i]? = some o) (c : Call) : o.op ≠ .defer c := by
  intro hc
  have hm : o ∈ ops.toList := by
    have h2 : ops.toList[i]? = some o := by simpa using ho
    exact List.mem_of_getElem? h2
  have h1 := List.all_eq_true.1 h o hm
  simp [hc] at h1

theorem wpOpIn_round {l n : Nat} {P : Program} {ops : Array Oper} {Q : Exit → Act → World → Prop} {i : Nat} {K : Act → World → Prop} {a : Act} {w : World}
    (hd : noDefer ops = true) (hL : ¬ LetsOut Q) (h : wpOp P ops Q i K a w) : wpOpIn (Fence.wide.inRound l) n P ops Q i K a w := by
  unfold wpOp at h
  unfold wpOpIn
  cases ho : ops[i]? with
  | none => simpa [ho] using h
  | some o =>
    simp only [ho] at h ⊢
    split
    · rename_i hw
      simp only [hw, if_true] at h
      rcases h with h | ⟨_, h⟩
      · refine ⟨fun _ _ => trivial, ?_⟩
        unfold Oper.wp at h
        rw [show (Fence.wide.inRound l).round = some l from rfl, Oper.semAt_some l _ o (fun c => noDefer_spec hd ho c)]
        generalize (execOp a.eval o).run P w = r at *
        cases r with
        | ok x w' =>
          cases x <;> simp only [Oper.upon, Oper.uponIn] at h ⊢
          case value => exact h
          case skip => exact h
          case defer => exact h
          case enter => exact ⟨fun hx => by simp [Fence.inRound, Fence.wide] at hx, CallsIn.inRound l (callsIn_wide.2 h)⟩
          case row => exact ⟨fun hx => by simp [Fence.inRound, Fence.wide] at hx, fun c cs _ => let ⟨v, w', r, s⟩ := h c cs; ⟨v, w', r, stepsIn_wide.2 s⟩⟩
        | halt x w' => cases x <;> simp only [Oper.upon, Oper.uponIn] at h ⊢ <;> exact h
      · exact absurd h hL
    · rename_i hw
      simp only [hw] at h
      exact ⟨fun _ _ => trivial, h⟩

theorem wpAnyIn_round {l n : Nat} {P : Program} {md : Region.Mode} {ops : Array Oper} {Q : Exit → Act → World → Prop} (hd : noDefer ops = true) (hL : ¬ LetsOut Q) :
    ∀ (fuel : Nat) (listed : Array Bool) (a : Act) (w : World), wpAny P md ops Q fuel listed a w → wpAnyIn (Fence.wide.inRound l) n P md ops Q fuel listed a w
  | 0, _, _, _, h => h
  | fuel + 1, _, _, _, h => ⟨h.1, fun i hi => wpOpIn_mono (fun a' w' h' => wpAnyIn_round hd hL fuel _ a' w' h') (wpOpIn_round hd hL (h.2 i hi))⟩

/-- The post of a region that comes to its end. -/
def Ends (R : Act → World → Prop) : Exit → Act → World → Prop
  | .normal, a, w => R a w
  | _, _, _ => False
theorem ends_panic {R : Act → World → Prop} {dst : Option Tmp} {v : Value} : ∀ (c : List PanicEntry) (a : Act) (w : World), Ends R (.panic c) (a.put dst v) w → Ends R (.panic c) a w := fun _ _ _ h => h
theorem ends_lets {R : Act → World → Prop} : ¬ LetsOut (Ends R) := fun ⟨_, _, h⟩ => h

theorem ends_done {R : Act → World → Prop} {a : Act} {w : World} (h : R a w) : Ends R .normal a w := h

/-- The beginning, in a round. -/
theorem wpIn_round_held {id l n : Nat} {P : Program} {ops : Array Oper} {Q : Exit → Act → World → Prop} {a : Act} {w : World} (S : World → Prop) (hm : P.follows .mixedOrders = true) (hd : noDefer ops = true) (hS : S w.drew)
    (h : S w.drew → wpAnyH P .any ops (Ends (Q .normal)) S ops.size (Array.replicate ops.size false) a w.drew) : (Code.region id ops true).wpIn (Fence.wide.inRound l) n P Q a w :=
  wpIn_mono (wpIn_region_any hm (wpAnyIn_round hd ends_lets _ _ _ _ (wpAny_of_held _ _ _ _ (h hS)))) (fun e a w q => by cases e <;> first | exact q | exact (q : False).elim)

/-- An operation that yields is taken first; the state behind it is laid out. -/
theorem take_at {P : Program} {ops : Array Oper} {R : Act → World → Prop} {S : World → Prop} {md : Region.Mode} (i d : Nat) {oi : Oper} {v : Value} {fuel : Nat} {listed : Array Bool} {T : Array Value} {D : List Deferred} {w : World} (hi : ops[i]? = some oi) (hd : oi.dst = some d)
    (hs : Region.noSelect ops = true) (hf : Region.free md ops listed i = true) (hr : (Region.ready md ops listed).contains i = true)
    (hw : Region.wanted oi (yielded ops T) = true) (hS : S w) (hy : ∀ w, S w → (execOp (Act.eval ⟨T, D⟩) oi).run P w = .ok (.value v) w)
    (h : wpAnyH P md ops (Ends R) S fuel (listed.setIfInBounds i true) ⟨T.setIfInBounds d v, D⟩ w) : wpAnyH P md ops (Ends R) S (fuel + 1) listed ⟨T, D⟩ w :=
  wpAnyH_take hi hs hf hr ends_panic (Or.inl ⟨hw, hy⟩) hS (by rw [hd]; exact h)

theorem wpOp_of {P : Program} {ops : Array Oper} {Q : Exit → Act → World → Prop} {i : Nat} {oi : Oper} {K : Act → World → Prop} {a : Act} {w : World} (hi : ops[i]? = some oi) (hw : Region.wanted oi (yielded ops a.tmps) = true) (h : oi.wp P a w K Q) : wpOp P ops Q i K a w := by
  unfold wpOp
  simp only [hi]
  rw [if_pos hw]
  exact .inl h

/-- The one operation that may come up yields a value. -/
theorem run_at {P : Program} {ops : Array Oper} {R : Act → World → Prop} {S : World → Prop} {md : Region.Mode} (i d : Nat) {oi : Oper} {v : Value} {fuel : Nat} {listed : Array Bool} {T : Array Value} {D : List Deferred} {w w' : World} (hi : ops[i]? = some oi) (hd : oi.dst = some d)
    (hr : Region.ready md ops listed = [i]) (hw : Region.wanted oi (yielded ops T) = true) (hy : (execOp (Act.eval ⟨T, D⟩) oi).run P w = .ok (.value v) w') (hS : S w')
    (h : wpAnyH P md ops (Ends R) S fuel (listed.setIfInBounds i true) ⟨T.setIfInBounds d v, D⟩ w') : wpAnyH P md ops (Ends R) S (fuel + 1) listed ⟨T, D⟩ w :=
  wpAnyH_all hr (by simp) fun j hj => by
    obtain rfl : j = i := by simpa using hj
    refine wpOp_of hi hw ?_
    unfold Oper.wp
    rw [hy]
    refine ⟨hS, ?_⟩
    rw [hd]
    exact h

/-- The one operation that may come up writes, and leaves no value. -/
theorem skip_at {P : Program} {ops : Array Oper} {R : Act → World → Prop} {S : World → Prop} {md : Region.Mode} (i : Nat) {oi : Oper} {fuel : Nat} {listed : Array Bool} {a : Act} {w w' : World} (hi : ops[i]? = some oi) (hd : oi.dst = none)
    (hr : Region.ready md ops listed = [i]) (hw : Region.wanted oi (yielded ops a.tmps) = true) (hy : (execOp a.eval oi).run P w = .ok .skip w') (hS : S w')
    (h : wpAnyH P md ops (Ends R) S fuel (listed.setIfInBounds i true) a w') : wpAnyH P md ops (Ends R) S (fuel + 1) listed a w :=
  wpAnyH_all hr (by simp) fun j hj => by
    obtain rfl : j = i := by simpa using hj
    refine wpOp_of hi hw ?_
    unfold Oper.wp
    rw [hy]
    refine ⟨hS, ?_⟩
    rw [hd]
    exact h

/-- The one operation that may come up calls. -/
theorem call_at {P : Program} {ops : Array Oper} {R : Act → World → Prop} {S : World → Prop} {md : Region.Mode} (i d : Nat) {oi : Oper} {f : FuncId} {args : Array Value} {fuel : Nat} {listed : Array Bool} {T : Array Value} {D : List Deferred} {w w0 : World} (hi : ops[i]? = some oi) (hd : oi.dst = some d)
    (hr : Region.ready md ops listed = [i]) (hw : Region.wanted oi (yielded ops T) = true) (hy : (execOp (Act.eval ⟨T, D⟩) oi).run P w = .ok (.enter f args) w0)
    (h : Calls P f args w0 fun e w' => ∃ v, e = .returned v ∧ S w' ∧ wpAnyH P md ops (Ends R) S fuel (listed.setIfInBounds i true) ⟨T.setIfInBounds d v, D⟩ w') : wpAnyH P md ops (Ends R) S (fuel + 1) listed ⟨T, D⟩ w :=
  wpAnyH_all hr (by simp) fun j hj => by
    obtain rfl : j = i := by simpa using hj
    refine wpOp_of hi hw ?_
    unfold Oper.wp
    rw [hy]
    refine h.mono ?_
    rintro e w' ⟨v, rfl, hS, h⟩
    refine ⟨hS, ?_⟩
    rw [hd]
    exact h

end Go.Proofs.YtgacacbncefeaaaGreat.Disk
