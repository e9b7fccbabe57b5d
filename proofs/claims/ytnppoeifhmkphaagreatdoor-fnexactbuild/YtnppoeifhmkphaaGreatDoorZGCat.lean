/- slices.Grow and slices.Concat at numbers. -/
import Derived.Test.YtnppoeifhmkphaaGreatDoorZMD
import Derived.Maps.AppendAt
namespace Go.Proofs.YtnppoeifhmkphaaGreatDoor
open Go.RowKit

theorem append_zeros (n : Nat) (h0 : 0 < n) (hn : n ≤ 1000000000) (ty : TypeId) (w : World) :
    (Builtin.append_ #[22, 3] ty #[.slice none 0 0, .int .i64 (n : Int)]).run Tryz.prog w = .ok (.slice (some ⟨w.heap.size, 0, none⟩) n (grownCap w n 0 2)) (w.drew.alloc (.cells (Builtin.zeroCells #[.int .i64 0] n ++ Builtin.zeroCells #[.int .i64 0] (grownCap w n 0 2 - n)) 2)) := by
  obtain ⟨i, hi, hzz⟩ := Option.map_eq_some_iff.1 Tryz.infoI
  simp only [Prod.mk.injEq] at hzz
  obtain ⟨hz, hsz, hby⟩ := hzz
  have h1 : ¬ n = 0 := by omega
  have h63' : ¬ (9223372036854775807 < (n : Int)) := by omega
  have h48' : ¬ (281474976710656 < Builtin.nextslicecap n 0 * 8) := by rw [nextslicecap_zero h0]; omega
  have wl : IntKind.i64.wrap (n : Int) = n := by rw [IntKind.wrap_i64]; omega
  have n1 : ¬ (n : Int) < 0 := by omega
  have n2 : ¬ (281474976710656 < (n : Int) * 8) := by omega
  simp [Builtin.append_, run_underlying Tryz.underlying22, run_underlying Tryz.underlying3, asInt, asIntOf, sizeOf, typeInfo, zeroValue, hi, hz, hsz, hby, h1, h63', h48', wl, n1, n2, Question.forced, run_firstCells_none, newRow, grownCap, Value.cells]

section
variable {ops : Array Oper} {rest : List Oper} {o : Oper} {a : Act} {Q : Exit → Act → World → Prop}
theorem grow_at (w : World) (hgd : o.guard = none) (s x : Operand) (ho : o.op = .call { callee := .builtin .append, args := #[s, x], argTypes := #[22, 3] }) (n : Nat) (hs : a.eval s = .slice none 0 0) (hx : a.eval x = .int .i64 (n : Int)) (h0 : 0 < n) (hn : n ≤ 1000000000)
    (h : ∀ cap w', n ≤ cap → w'.ownsRow w.heap.size 2 1 (.slice (some ⟨w.heap.size, 0, none⟩) 0 cap) 0 [] → Below w.heap.size w w' → wpList Tryz.prog ops Q rest (a.put o.dst (.slice (some ⟨w.heap.size, 0, none⟩) n cap)) w') : wpList Tryz.prog ops Q (o :: rest) a w := by
  refine wpList_plain hgd fun K hK => ?_
  unfold Oper.wp execOp
  simp only [ho, resolve, invoke, builtin, Sem.run_bind, Sem.run_pure, Result.andThen_ok, List.map_toArray, List.map_cons, List.map_nil, hs, hx, append_zeros n h0 hn]
  have hge := grownCap_ge w n 0 2
  refine hK _ _ (h (grownCap w n 0 2) _ hge ?_ ((Below.refl _ _).drew.alloc (by exact Nat.le_refl _) _))
  refine World.ownsRow_made w.drew _ (grownCap w n 0 2) (Nat.le_refl _) (grownCap_le_maxLen w n 0 2 (by unfold maxLen; omega)) ?_
  simp only [Array.size_append, size_zeroCells]
  simp
  omega
end

theorem grow_any (n : Nat) (h0 : 0 < n) (hn : n ≤ 1000000000) (w : World) :
    Calls Tryz.prog 79 #[.slice none 0 0, .int .i64 (n : Int)] w fun e w' => (∃ cap, e = .returned (.slice (some ⟨w.heap.size, 0, none⟩) 0 cap) ∧ w'.ownsRow w.heap.size 2 1 (.slice (some ⟨w.heap.size, 0, none⟩) 0 cap) 0 []) ∧ Below w.heap.size w w' := by
  have g : (n : Int) > 0 := by omega
  have n0 : ¬ (n : Int) < 0 := by omega
  go_enter Tryz.func79, Tryz.ntmps79
  go_wp2_with (at_builtin; refine grow_at _ rfl _ _ rfl n rfl rfl h0 hn ?_; intro cap w' hcap ho hb)
  go_ret
  exact ⟨⟨cap, rfl, ho⟩, hb⟩

end Go.Proofs.YtnppoeifhmkphaaGreatDoor
