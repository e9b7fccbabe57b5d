/- errors.Is at an error of the program's own kind that wraps a sentinel: the library's text walked. -/
import Derived.Test.YtfccehcgjnjgdaaDoorSplit
import Derived.WalkKit
import Derived.LaidEql
import Derived.Stop.Asserts
import Derived.RowKitTokens
namespace Go.Proofs.YtfccehcgjnjgdaaDoor
open Go.RowKit Go.Extern.Stop Go.Stop Go.Extern

theorem Tryd.isTypeOf (v : Value) (w : World) : (Extern.ReflectliteType.typeOf #[.iface 138 v]).run Tryd.prog w = .ok (.iface 100 (.agg #[.pointer (some ⟨11, 138, none⟩)])) w := by kernel_rfl
/-- The model's own entry for (rtype).Comparable, whatever it is. -/
theorem Tryd.compEx : ∃ E : Array Value → Sem Value, Extern.find Tryd.f111 = some E ∧ ∀ w : World, (E #[.agg #[.pointer (some ⟨11, 138, none⟩)]]).run Tryd.prog w = .ok (.bool true) w :=
  ⟨Extern.ReflectliteType.method fun t => do Extern.Rtype.noPackHeld "Comparable" t; pure (.bool (← typeInfo t).comparable), by kernel_rfl, fun w => by kernel_rfl⟩
theorem Tryd.isMethodComparable (v : Value) (w : World) : (Go.method 269 100 v "Comparable").run Tryd.prog w = .ok (111, v) w := by kernel_rfl
theorem Tryd.isComp : (Tryd.prog.info? 138).map (·.comparable) = some true := by kernel_rfl
theorem Tryd.isSize : (Tryd.prog.info? 140).map (·.size) = some 1 := by kernel_rfl
theorem Tryd.noIsE (v : Value) (xT : TypeId) (w : World) : (Instr.typeAssert (.iface 138 v) xT 112 true).run Tryd.prog w = .ok (.tuple #[.nilIface, .bool false]) w := run_typeAssert_lacksB Tryd.underlying112 (by kernel_rfl) (by kernel_rfl) v xT w
theorem Tryd.noUnwrapE (v : Value) (xT : TypeId) (w : World) : (Instr.typeAssert (.iface 138 v) xT 107 true).run Tryd.prog w = .ok (.tuple #[.nilIface, .bool false]) w := run_typeAssert_lacksB Tryd.underlying107 (by kernel_rfl) (by kernel_rfl) v xT w
theorem Tryd.noUnwrapsE (v : Value) (xT : TypeId) (w : World) : (Instr.typeAssert (.iface 138 v) xT 109 true).run Tryd.prog w = .ok (.tuple #[.nilIface, .bool false]) w := run_typeAssert_lacksB Tryd.underlying109 (by kernel_rfl) (by kernel_rfl) v xT w
theorem Tryd.noIsW (v : Value) (xT : TypeId) (w : World) : (Instr.typeAssert (.iface 56 v) xT 112 true).run Tryd.prog w = .ok (.tuple #[.nilIface, .bool false]) w := run_typeAssert_lacksB Tryd.underlying112 (by kernel_rfl) (by kernel_rfl) v xT w
theorem Tryd.hasUnwrapW (v : Value) (xT : TypeId) (w : World) : (Instr.typeAssert (.iface 56 v) xT 107 true).run Tryd.prog w = .ok (.tuple #[.iface 56 v, .bool true]) w := run_typeAssert_hasB Tryd.underlying107 (by kernel_rfl) v xT w
theorem Tryd.methodUnwrap (v : Value) (w : World) : (Go.method 269 56 v "Unwrap").run Tryd.prog w = .ok (105, v) w := by kernel_rfl

set_option maxRecDepth 100000 in
set_option maxHeartbeats 4000000 in
theorem is_same (part : ByteArray) (b : Addr) (w : World) :
    Calls Tryd.prog 35 #[.iface 56 (.agg #[.string part, .iface 138 (.pointer (some b))]), .iface 138 (.pointer (some b))] w fun e w' => e = .returned (.bool true) ∧ w' = w.alloc (.cells #[.string part, .iface 138 (.pointer (some b))] 56) := by
  obtain ⟨i, hi, hcmp⟩ := Option.map_eq_some_iff.1 Tryd.isComp
  obtain ⟨j, hj, hjs⟩ := Option.map_eq_some_iff.1 Tryd.isSize
  have h50 := @run_callFunc_extern Tryd.prog 50 _ Extern.ReflectliteType.typeOf Tryd.func50 (by kernel_rfl) (by kernel_rfl) (by kernel_rfl) (by kernel_rfl)
  obtain ⟨E, hE, cT⟩ := Tryd.compEx
  have h111 := @run_callFunc_extern Tryd.prog 111 _ E Tryd.func111 (by kernel_rfl) (by kernel_rfl) (by kernel_rfl) hE
  have tT := Tryd.isTypeOf
  have mR := Tryd.isMethodComparable
  have nW := Tryd.noIsW
  have uW := Tryd.hasUnwrapW
  have mU := Tryd.methodUnwrap
  have heq := run_eql_iface_ptr_same (P := Tryd.prog) (w.alloc (.cells #[.string part, .iface 138 (.pointer (some b))] 56)) b Tryd.underlying39 Tryd.underlying138 hi hcmp hj
  have hty := run_eql_iface_types (P := Tryd.prog) 56 138 (.agg #[.string part, .iface 138 (.pointer (some b))]) (.pointer (some b)) Tryd.underlying39 (by decide) w
  clear hE
  go_enter Tryd.func35, Tryd.ntmps35
  go_wp2
  refine wp_loop_rounds 2 ?_
  rw [rounds_succ]
  go_wp2
  rw [rounds_succ]
  go_wp2
  go_ret
  exact ⟨rfl, rfl⟩

set_option maxRecDepth 100000 in
set_option maxHeartbeats 4000000 in
theorem is_other (part : ByteArray) (a b : Addr) (ca cb : Array Value) (ta tb : TypeId) (w : World) (hne : a ≠ b) (ha : w.heap[a.block]? = some (.cells ca ta (0, 0))) (hb : w.heap[b.block]? = some (.cells cb tb (0, 0))) :
    Calls Tryd.prog 35 #[.iface 56 (.agg #[.string part, .iface 138 (.pointer (some a))]), .iface 138 (.pointer (some b))] w fun e w' => e = .returned (.bool false) ∧ w' = w.alloc (.cells #[.string part, .iface 138 (.pointer (some a))] 56) := by
  obtain ⟨i, hi, hcmp⟩ := Option.map_eq_some_iff.1 Tryd.isComp
  obtain ⟨j, hj, hjs⟩ := Option.map_eq_some_iff.1 Tryd.isSize
  have h50 := @run_callFunc_extern Tryd.prog 50 _ Extern.ReflectliteType.typeOf Tryd.func50 (by kernel_rfl) (by kernel_rfl) (by kernel_rfl) (by kernel_rfl)
  obtain ⟨E, hE, cT⟩ := Tryd.compEx
  have h111 := @run_callFunc_extern Tryd.prog 111 _ E Tryd.func111 (by kernel_rfl) (by kernel_rfl) (by kernel_rfl) hE
  have tT := Tryd.isTypeOf
  have mR := Tryd.isMethodComparable
  have nE := Tryd.noIsE
  have uE := Tryd.noUnwrapE
  have vE := Tryd.noUnwrapsE
  have nW := Tryd.noIsW
  have uW := Tryd.hasUnwrapW
  have mU := Tryd.methodUnwrap
  have lt : ∀ (k : Nat) (o : Obj), w.heap[k]? = some o → k < w.heap.size := fun k o h => by
    rcases Nat.lt_or_ge k w.heap.size with h' | h'
    · exact h'
    · rw [Array.getElem?_eq_none h'] at h; cases h
  have bel := bel_one w (.cells #[.string part, .iface 138 (.pointer (some a))] 56)
  have ha' : (w.alloc (.cells #[.string part, .iface 138 (.pointer (some a))] 56)).heap[a.block]? = some (.cells ca ta (0, 0)) := (bel.block _ (lt _ _ ha)).trans ha
  have hb' : (w.alloc (.cells #[.string part, .iface 138 (.pointer (some a))] 56)).heap[b.block]? = some (.cells cb tb (0, 0)) := (bel.block _ (lt _ _ hb)).trans hb
  have heq := run_eql_iface_ptr_other (P := Tryd.prog) (w.alloc (.cells #[.string part, .iface 138 (.pointer (some a))] 56)) Tryd.underlying39 Tryd.underlying138 hi hcmp hj (by rw [hjs]; decide) hne ha' hb'
  have hty := run_eql_iface_types (P := Tryd.prog) 56 138 (.agg #[.string part, .iface 138 (.pointer (some a))]) (.pointer (some b)) Tryd.underlying39 (by decide) w
  clear ha hb ha' hb' lt bel hE
  go_enter Tryd.func35, Tryd.ntmps35
  go_wp2
  refine wp_loop_rounds 2 ?_
  rw [rounds_succ]
  go_wp2
  rw [rounds_succ]
  go_wp2
  go_ret
  exact ⟨rfl, rfl⟩

end Go.Proofs.YtfccehcgjnjgdaaDoor
