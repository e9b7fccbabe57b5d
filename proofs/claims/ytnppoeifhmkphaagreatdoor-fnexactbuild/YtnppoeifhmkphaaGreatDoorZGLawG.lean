/- Graphs in the laws: eqGraph, markGraph, heldGraph; graphs that own their memory. -/
import Derived.Test.YtnppoeifhmkphaaGreatDoorZGShC
import Derived.Test.YtnppoeifhmkphaaGreatDoorZHLaws
namespace Go.Proofs.YtnppoeifhmkphaaGreatDoor
open Go.RowKit

def mkK (k : Int) (ns : List Nd) (i : Nat) : Int := k + (((ns.take i).map fun n => 2 + n.fl.length).sum : Nat)
theorem mkK_succ (k : Int) (ns : List Nd) (i : Nat) (h : i < ns.length) : mkK k ns (i + 1) = mkK k ns i + 2 + ((ns.getD i nd0).fl.length : Int) := by
  unfold mkK
  rw [List.take_succ_eq_append_getElem h, List.map_append, List.sum_append]
  simp only [List.map_cons, List.map_nil, List.sum_cons, List.sum_nil]
  rw [show ns.getD i nd0 = ns[i] from by simp [List.getD_eq_getElem?_getD, h]]
  omega
theorem mkK_zero (k : Int) (ns : List Nd) : mkK k ns 0 = k := by simp [mkK]
theorem mkK_le (k : Int) (ns : List Nd) (i d : Nat) (h : i + d ≤ ns.length) : mkK k ns i ≤ mkK k ns (i + d) := by
  induction d with
  | zero => simp
  | succ d ih =>
    have := ih (by omega)
    have := mkK_succ k ns (i + d) (by omega)
    rw [show i + (d + 1) = (i + d) + 1 from rfl]
    omega
theorem mkK_bounds (k : Int) (ns : List Nd) (i : Nat) (h : i ≤ ns.length) : k ≤ mkK k ns i ∧ mkK k ns i ≤ mkK k ns ns.length := by
  have h1 := mkK_le k ns 0 i (by omega)
  have h2 := mkK_le k ns i (ns.length - i) (by omega)
  rw [mkK_zero, Nat.zero_add] at h1
  rw [show i + (ns.length - i) = ns.length from by omega] at h2
  exact ⟨h1, h2⟩
def nmk (k : Int) (ns : List Nd) : List Nd := (List.range ns.length).map fun i => ⟨mkK k ns i, mkK k ns i + 1, imarks (mkK k ns i + 2) (ns.getD i nd0).fl.length⟩
theorem nmk_length (k : Int) (ns : List Nd) : (nmk k ns).length = ns.length := by simp [nmk]
theorem nmk_get (k : Int) (ns : List Nd) (i : Nat) (h : i < ns.length) : (nmk k ns).getD i nd0 = ⟨mkK k ns i, mkK k ns i + 1, imarks (mkK k ns i + 2) (ns.getD i nd0).fl.length⟩ := by
  simp [nmk, h]


end Go.Proofs.YtnppoeifhmkphaaGreatDoor
