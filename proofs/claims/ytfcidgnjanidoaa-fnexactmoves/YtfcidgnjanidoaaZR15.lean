import Derived.Test.YtfcidgnjanidoaaZR8
import Derived.Test.YtfcidgnjanidoaaZHBase
/- One of two operations of a region comes up. -/
namespace Go.Proofs.Ytfcidgnjanidoaa
open Go.RowKit

section
variable {P : Program} {md : Region.Mode} {ops : Array Oper} {Q : Exit → Act → World → Prop} {R : Act → World → Prop} {S : World → Prop} {z : Nat}
/-- One of two operations comes up. -/
theorem z_or {i j fuel : Nat} {listed : Array Bool} {a : Act} {w : World} (hr : Region.ready md ops listed = [i, j])
    (h1 : wpOp P ops Q i (fun a' w' => (i = z ∨ S w') ∧ Disk.wpAnyZ P md ops Q z S fuel (listed.setIfInBounds i true) a' w') a w)
    (h2 : wpOp P ops Q j (fun a' w' => (j = z ∨ S w') ∧ Disk.wpAnyZ P md ops Q z S fuel (listed.setIfInBounds j true) a' w') a w) : Disk.wpAnyZ P md ops Q z S (fuel + 1) listed a w := by
  refine ⟨fun h0 => (by rw [hr] at h0; cases h0), fun k hk => ?_⟩
  rw [hr] at hk
  simp at hk
  rcases hk with rfl | rfl
  · exact h1
  · exact h2
theorem o_run (i d : Nat) {oi : Oper} {v : Value} {fuel : Nat} {listed : Array Bool} {T : Array Value} {D : List Deferred} {w w' : World} (hi : ops[i]? = some oi) (hd : oi.dst = some d)
    (hw : Region.wanted oi (yielded ops T) = true) (hy : (execOp (Act.eval ⟨T, D⟩) oi).run P w = .ok (.value v) w') (hS : i = z ∨ S w')
    (h : Disk.wpAnyZ P md ops (Disk.Ends R) z S fuel (listed.setIfInBounds i true) ⟨T.setIfInBounds d v, D⟩ w') : wpOp P ops (Disk.Ends R) i (fun a' w' => (i = z ∨ S w') ∧ Disk.wpAnyZ P md ops (Disk.Ends R) z S fuel (listed.setIfInBounds i true) a' w') ⟨T, D⟩ w := by
  refine Disk.wpOp_of hi hw ?_
  unfold Oper.wp
  rw [hy]
  refine ⟨hS, ?_⟩
  rw [hd]
  exact h
theorem o_call (i d : Nat) {oi : Oper} {f : FuncId} {args : Array Value} {fuel : Nat} {listed : Array Bool} {T : Array Value} {D : List Deferred} {w w0 : World} (hi : ops[i]? = some oi) (hd : oi.dst = some d)
    (hw : Region.wanted oi (yielded ops T) = true) (hy : (execOp (Act.eval ⟨T, D⟩) oi).run P w = .ok (.enter f args) w0)
    (h : Calls P f args w0 fun e w' => ∃ v, e = .returned v ∧ (i = z ∨ S w') ∧ Disk.wpAnyZ P md ops (Disk.Ends R) z S fuel (listed.setIfInBounds i true) ⟨T.setIfInBounds d v, D⟩ w') : wpOp P ops (Disk.Ends R) i (fun a' w' => (i = z ∨ S w') ∧ Disk.wpAnyZ P md ops (Disk.Ends R) z S fuel (listed.setIfInBounds i true) a' w') ⟨T, D⟩ w := by
  refine Disk.wpOp_of hi hw ?_
  unfold Oper.wp
  rw [hy]
  refine h.mono ?_
  rintro e w' ⟨v, rfl, hS, h⟩
  refine ⟨hS, ?_⟩
  rw [hd]
  exact h
end

end Go.Proofs.Ytfcidgnjanidoaa

/- A region of a function, taken out of it. -/
namespace Go.Proofs.Ytfcidgnjanidoaa
open Go.RowKit

/-- The region of this number. -/
def regOf (n : Nat) : Code → Option Code
  | .region i ops d => if i = n then some (.region i ops d) else none
  | .seq a b => match regOf n a with
    | some c => some c
    | none => regOf n b
  | .block _ c => regOf n c
  | .scope c => regOf n c
  | .loop c => regOf n c
  | .cond _ a b => match regOf n a with
    | some c => some c
    | none => regOf n b
  | _ => none

end Go.Proofs.Ytfcidgnjanidoaa
