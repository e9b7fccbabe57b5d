/- errors.Is at an error of the program's own kind that wraps a sentinel: the library's text walked. -/
import Derived.Test.YtjclpbaiiklhcaaGreatDoorZSplit
import Derived.WalkKit
import Derived.LaidEql
import Derived.Stop.Asserts
import Derived.RowKitTokens
namespace Go.Proofs.YtjclpbaiiklhcaaGreatDoor
open Go.RowKit Go.Extern.Stop Go.Stop Go.Extern

theorem Tryz.isTypeOf (v : Value) (w : World) : (Extern.ReflectliteType.typeOf #[.iface 200 v]).run Tryz.prog w = .ok (.iface 176 (.agg #[.pointer (some ⟨12, 200, none⟩)])) w := by kernel_rfl
/-- The model's own entry for (rtype).Comparable, whatever it is. -/
theorem Tryz.compEx : ∃ E : Array Value → Sem Value, Extern.find Tryz.f172 = some E ∧ ∀ w : World, (E #[.agg #[.pointer (some ⟨12, 200, none⟩)]]).run Tryz.prog w = .ok (.bool true) w :=
  ⟨Extern.ReflectliteType.method fun t => do Extern.Rtype.noPackHeld "Comparable" t; pure (.bool (← typeInfo t).comparable), by kernel_rfl, fun w => by kernel_rfl⟩
theorem Tryz.isMethodComparable (v : Value) (w : World) : (Go.method 331 176 v "Comparable").run Tryz.prog w = .ok (172, v) w := by kernel_rfl
theorem Tryz.isComp : (Tryz.prog.info? 200).map (·.comparable) = some true := by kernel_rfl
theorem Tryz.isSize : (Tryz.prog.info? 202).map (·.size) = some 1 := by kernel_rfl
theorem Tryz.noIsE (v : Value) (xT : TypeId) (w : World) : (Instr.typeAssert (.iface 200 v) xT 188 true).run Tryz.prog w = .ok (.tuple #[.nilIface, .bool false]) w := run_typeAssert_lacksB Tryz.underlying188 (by kernel_rfl) (by kernel_rfl) v xT w
theorem Tryz.noUnwrapE (v : Value) (xT : TypeId) (w : World) : (Instr.typeAssert (.iface 200 v) xT 183 true).run Tryz.prog w = .ok (.tuple #[.nilIface, .bool false]) w := run_typeAssert_lacksB Tryz.underlying183 (by kernel_rfl) (by kernel_rfl) v xT w
theorem Tryz.noUnwrapsE (v : Value) (xT : TypeId) (w : World) : (Instr.typeAssert (.iface 200 v) xT 185 true).run Tryz.prog w = .ok (.tuple #[.nilIface, .bool false]) w := run_typeAssert_lacksB Tryz.underlying185 (by kernel_rfl) (by kernel_rfl) v xT w
theorem Tryz.noIsW (v : Value) (xT : TypeId) (w : World) : (Instr.typeAssert (.iface 122 v) xT 188 true).run Tryz.prog w = .ok (.tuple #[.nilIface, .bool false]) w := run_typeAssert_lacksB Tryz.underlying188 (by kernel_rfl) (by kernel_rfl) v xT w
theorem Tryz.hasUnwrapW (v : Value) (xT : TypeId) (w : World) : (Instr.typeAssert (.iface 122 v) xT 183 true).run Tryz.prog w = .ok (.tuple #[.iface 122 v, .bool true]) w := run_typeAssert_hasB Tryz.underlying183 (by kernel_rfl) v xT w
theorem Tryz.methodUnwrap (v : Value) (w : World) : (Go.method 331 122 v "Unwrap").run Tryz.prog w = .ok (163, v) w := by kernel_rfl

set_option maxRecDepth 100000 in
set_option maxHeartbeats 4000000 in
theorem is_same (part : ByteArray) (b : Addr) (w : World) :
    Calls Tryz.prog 110 #[.iface 122 (.agg #[.string part, .iface 200 (.pointer (some b))]), .iface 200 (.pointer (some b))] w fun e w' => e = .returned (.bool true) ∧ w' = w.alloc (.cells #[.string part, .iface 200 (.pointer (some b))] 122) := by
  obtain ⟨i, hi, hcmp⟩ := Option.map_eq_some_iff.1 Tryz.isComp
  obtain ⟨j, hj, hjs⟩ := Option.map_eq_some_iff.1 Tryz.isSize
  have h50 := @run_callFunc_extern Tryz.prog 124 _ Extern.ReflectliteType.typeOf Tryz.func124 (by kernel_rfl) (by kernel_rfl) (by kernel_rfl) (by kernel_rfl)
  obtain ⟨E, hE, cT⟩ := Tryz.compEx
  have h111 := @run_callFunc_extern Tryz.prog 172 _ E Tryz.func172 (by kernel_rfl) (by kernel_rfl) (by kernel_rfl) hE
  have tT := Tryz.isTypeOf
  have mR := Tryz.isMethodComparable
  have nW := Tryz.noIsW
  have uW := Tryz.hasUnwrapW
  have mU := Tryz.methodUnwrap
  have heq := run_eql_iface_ptr_same (P := Tryz.prog) (w.alloc (.cells #[.string part, .iface 200 (.pointer (some b))] 122)) b Tryz.underlying92 Tryz.underlying200 hi hcmp hj
  have hty := run_eql_iface_types (P := Tryz.prog) 122 200 (.agg #[.string part, .iface 200 (.pointer (some b))]) (.pointer (some b)) Tryz.underlying92 (by decide) w
  clear hE
  go_enter Tryz.func110, Tryz.ntmps110
  go_wp2
  refine wp_loop_rounds 2 ?_
  rw [rounds_succ]
  go_wp2
  rw [rounds_succ]
  go_wp2
  go_ret
  exact ⟨rfl, rfl⟩

set_option maxRecDepth 100000 in
set_option maxHeartbeats 4000000 in
theorem is_other (part : ByteArray) (a b : Addr) (ca cb : Array Value) (ta tb : TypeId) (w : World) (hne : a ≠ b) (ha : w.heap[a.block]? = some (.cells ca ta (0, 0))) (hb : w.heap[b.block]? = some (.cells cb tb (0, 0))) :
    Calls Tryz.prog 110 #[.iface 122 (.agg #[.string part, .iface 200 (.pointer (some a))]), .iface 200 (.pointer (some b))] w fun e w' => e = .returned (.bool false) ∧ w' = w.alloc (.cells #[.string part, .iface 200 (.pointer (some a))] 122) := by
  obtain ⟨i, hi, hcmp⟩ := Option.map_eq_some_iff.1 Tryz.isComp
  obtain ⟨j, hj, hjs⟩ := Option.map_eq_some_iff.1 Tryz.isSize
  have h50 := @run_callFunc_extern Tryz.prog 124 _ Extern.ReflectliteType.typeOf Tryz.func124 (by kernel_rfl) (by kernel_rfl) (by kernel_rfl) (by kernel_rfl)
  obtain ⟨E, hE, cT⟩ := Tryz.compEx
  have h111 := @run_callFunc_extern Tryz.prog 172 _ E Tryz.func172 (by kernel_rfl) (by kernel_rfl) (by kernel_rfl) hE
  have tT := Tryz.isTypeOf
  have mR := Tryz.isMethodComparable
  have nE := Tryz.noIsE
  have uE := Tryz.noUnwrapE
  have vE := Tryz.noUnwrapsE
  have nW := Tryz.noIsW
  have uW := Tryz.hasUnwrapW
  have mU := Tryz.methodUnwrap
  have lt : ∀ (k : Nat) (o : Obj), w.heap[k]? = some o → k < w.heap.size := fun k o h => by
    rcases Nat.lt_or_ge k w.heap.size with h' | h'
    · exact h'
    · rw [Array.getElem?_eq_none h'] at h; cases h
  have bel := bel_one w (.cells #[.string part, .iface 200 (.pointer (some a))] 122)
  have ha' : (w.alloc (.cells #[.string part, .iface 200 (.pointer (some a))] 122)).heap[a.block]? = some (.cells ca ta (0, 0)) := (bel.block _ (lt _ _ ha)).trans ha
  have hb' : (w.alloc (.cells #[.string part, .iface 200 (.pointer (some a))] 122)).heap[b.block]? = some (.cells cb tb (0, 0)) := (bel.block _ (lt _ _ hb)).trans hb
  have heq := run_eql_iface_ptr_other (P := Tryz.prog) (w.alloc (.cells #[.string part, .iface 200 (.pointer (some a))] 122)) Tryz.underlying92 Tryz.underlying200 hi hcmp hj (by rw [hjs]; decide) hne ha' hb'
  have hty := run_eql_iface_types (P := Tryz.prog) 122 200 (.agg #[.string part, .iface 200 (.pointer (some a))]) (.pointer (some b)) Tryz.underlying92 (by decide) w
  clear ha hb ha' hb' lt bel hE
  go_enter Tryz.func110, Tryz.ntmps110
  go_wp2
  refine wp_loop_rounds 2 ?_
  rw [rounds_succ]
  go_wp2
  rw [rounds_succ]
  go_wp2
  go_ret
  exact ⟨rfl, rfl⟩

end Go.Proofs.YtjclpbaiiklhcaaGreatDoor
