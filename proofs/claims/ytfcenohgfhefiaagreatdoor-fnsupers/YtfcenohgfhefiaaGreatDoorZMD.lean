import Derived.Test.YtfcenohgfhefiaaGreatDoorZMC
import Derived.WalkKit
import Derived.LaidEql
import Derived.Stop.Asserts
import Derived.RowKitTokens
import Derived.Test.YtfcenohgfhefiaaGreatDoorZMA
import Derived.Deep.OwnRows
import Derived.Laws.IdiomStrings
/- errors.As at the program's own kind of error, and at none: the library's text walked. -/
namespace Go.Proofs.YtfcenohgfhefiaaGreatDoor
open Go.RowKit Go.Extern.Stop Go.Stop Go.Extern

theorem as_nil (t : Value) (w : World) :
    Calls Tryz.prog 144 #[.nilIface, t] w fun e w' => e = .returned (.bool false) ∧ w' = w := by
  go_enter Tryz.func144, Tryz.ntmps144
  go_wp2
  go_ret
  exact ⟨rfl, rfl⟩

theorem Tryz.valueOf60 (t : Addr) (w : World) : (ReflectliteValue.unpack (.iface 170 (.pointer (some t)))).run Tryz.prog w
    = .ok (.agg #[.pointer (some ⟨12, 170, none⟩), .pointer (some ⟨w.heap.size, 0, none⟩), .int .u64 150]) (w.alloc (.cells #[.pointer (some t)] 170)) := by kernel_rfl
theorem Tryz.type60 (a : Addr) (w : World) : (ReflectliteValue.methodAny (ReflectliteValue.valueError "reflectlite.Value.Type" 0) (fun t _ _ _ => ReflectliteType.toType t) #[.agg #[.pointer (some ⟨12, 170, none⟩), .pointer (some a), .int .u64 150]]).run Tryz.prog w
    = .ok (.iface 200 (.agg #[.pointer (some ⟨12, 170, none⟩)])) w := by kernel_rfl
theorem Tryz.methodKind (h : Value) (w : World) : (Go.method 353 200 (.agg #[h]) "Kind").run Tryz.prog w = .ok (189, h) w := by kernel_rfl
theorem Tryz.kind60 (w : World) : ((ReflectliteType.abiMethod fun t => (fun a : Nat => Value.int IntKind.u8 (a : Int)) <$> Rtype.kind t) #[.pointer (some ⟨12, 170, none⟩)]).run Tryz.prog w = .ok (.int .u8 22) w := by kernel_rfl
theorem Tryz.kind56 (w : World) : ((ReflectliteType.abiMethod fun t => (fun a : Nat => Value.int IntKind.u8 (a : Int)) <$> Rtype.kind t) #[.pointer (some ⟨12, 152, none⟩)]).run Tryz.prog w = .ok (.int .u8 25) w := by kernel_rfl
theorem rlm (z : Sem Value) (f : TypeId → Addr → Nat → Nat → Sem Value) (v : Value) :
    ReflectliteValue.method z f #[v] = (do match ← ReflectliteValue.parts v with | none => z | some (t, a, fl) => f t a fl (fl % 32)) := rfl
theorem Tryz.parts60 (a : Addr) (w : World) : (ReflectliteValue.parts (.agg #[.pointer (some ⟨12, 170, none⟩), .pointer (some a), .int .u64 150])).run Tryz.prog w = .ok (some (170, a, 150)) w := by kernel_rfl
theorem Tryz.isNil60 (a p : Addr) (W : World) (ha : W.cell? a = some (.pointer (some p))) :
    (ReflectliteValue.method (ReflectliteValue.valueError "reflectlite.Value.IsNil" 0) ReflectliteValue.isNil #[.agg #[.pointer (some ⟨12, 170, none⟩), .pointer (some a), .int .u64 150]]).run Tryz.prog W = .ok (.bool false) W := by
  rw [rlm]
  simp only [Sem.run_bind, Tryz.parts60, Result.andThen]
  simp [ReflectliteValue.isNil, loadVar, isAgg, underlying, Tryz.underlying170, ha, Result.andThen]
theorem Tryz.methodElem (h : Value) (w : World) : (Go.method 353 200 (.agg #[h]) "Elem").run Tryz.prog w = .ok (203, .agg #[h]) w := by kernel_rfl
theorem Tryz.methodImplements (h : Value) (w : World) : (Go.method 353 200 (.agg #[h]) "Implements").run Tryz.prog w = .ok (204, .agg #[h]) w := by kernel_rfl
theorem Tryz.methodAssignableTo (h : Value) (w : World) : (Go.method 353 200 (.agg #[h]) "AssignableTo").run Tryz.prog w = .ok (201, .agg #[h]) w := by kernel_rfl
theorem Tryz.elem60 (w : World) : (ReflectliteType.method ReflectliteType.elem #[.agg #[.pointer (some ⟨12, 170, none⟩)]]).run Tryz.prog w = .ok (.iface 200 (.agg #[.pointer (some ⟨12, 152, none⟩)])) w := by kernel_rfl
theorem Tryz.implements56 (w : World) : (ReflectliteType.relation "Implements" ReflectliteType.implements_ #[.agg #[.pointer (some ⟨12, 152, none⟩)], .iface 200 (.agg #[.pointer (some ⟨12, 118, none⟩)])]).run Tryz.prog w = .ok (.bool true) w := by kernel_rfl
theorem Tryz.typeOf56 (v : Value) (w : World) : (ReflectliteType.typeOf #[.iface 152 v]).run Tryz.prog w = .ok (.iface 200 (.agg #[.pointer (some ⟨12, 152, none⟩)])) w := by kernel_rfl
theorem Tryz.assignable56 (w : World) : (ReflectliteType.relation "AssignableTo" ReflectliteType.assignableTo #[.agg #[.pointer (some ⟨12, 152, none⟩)], .iface 200 (.agg #[.pointer (some ⟨12, 152, none⟩)])]).run Tryz.prog w = .ok (.bool true) w := by kernel_rfl
theorem Tryz.valueOf56 (part : ByteArray) (a : Addr) (w : World) : (ReflectliteValue.unpack (.iface 152 (.agg #[.string part, .iface 222 (.pointer (some a))]))).run Tryz.prog w
    = .ok (.agg #[.pointer (some ⟨12, 152, none⟩), .pointer (some ⟨w.heap.size, 0, none⟩), .int .u64 153]) (w.alloc (.cells #[.string part, .iface 222 (.pointer (some a))] 152)) := by kernel_rfl
theorem Tryz.elemOf60 (w : World) : (Rtype.elem? 170).run Tryz.prog w = .ok (some 152) w := by kernel_rfl
theorem Tryz.mk56 (p : Addr) (w : World) : (ReflectliteValue.mk 152 p ReflectliteValue.flagAddr).run Tryz.prog w = .ok (.agg #[.pointer (some ⟨12, 152, none⟩), .pointer (some p), .int .u64 409]) w := by kernel_rfl
theorem Tryz.elemV60 (a p : Addr) (W : World) (ha : W.cell? a = some (.pointer (some p))) :
    (ReflectliteValue.method (ReflectliteValue.valueError "reflectlite.Value.Elem" 0) ReflectliteValue.elem #[.agg #[.pointer (some ⟨12, 170, none⟩), .pointer (some a), .int .u64 150]]).run Tryz.prog W
      = .ok (.agg #[.pointer (some ⟨12, 152, none⟩), .pointer (some p), .int .u64 409]) W := by
  rw [rlm]
  simp only [Sem.run_bind, Tryz.parts60, Result.andThen]
  simp [ReflectliteValue.elem, loadVar, isAgg, underlying, Tryz.underlying170, ha, Result.andThen, Tryz.elemOf60, Tryz.mk56]
theorem rls (v x : Value) : ReflectliteValue.set #[v, x] = (do
    let (some (dst, a, fl), some (src, b, _)) := (← ReflectliteValue.parts v, ← ReflectliteValue.parts x)
      | unsupported (.noEntry "extern/(internal/reflectlite.Value).Set.zeroValue")
    if fl / ReflectliteValue.flagAddr % 2 == 0 then unsupported (.noEntry "extern/(internal/reflectlite.Value).Set.unaddressable")
    let val ← loadVar src b
    if ← Rtype.directlyAssignable dst src then storeVar dst a val
    else if ← Rtype.implements dst src then
      if (← Rtype.kind src) == 20 then
        match val with
        | .nilIface => unsupported (.noEntry "extern/reflectlite: a nil value of one interface type handed on as a value of another")
        | _ => storeVar dst a val
      else storeVar dst a (.iface src val)
    else panicString ("reflectlite.Set: value of type " ++ (← Rtype.spelt src) ++ " is not assignable to type " ++ (← Rtype.spelt dst))
    pure (.tuple #[])) := rfl
theorem Tryz.parts56a (a : Addr) (w : World) : (ReflectliteValue.parts (.agg #[.pointer (some ⟨12, 152, none⟩), .pointer (some a), .int .u64 409])).run Tryz.prog w = .ok (some (152, a, 409)) w := by kernel_rfl
theorem Tryz.parts56 (a : Addr) (w : World) : (ReflectliteValue.parts (.agg #[.pointer (some ⟨12, 152, none⟩), .pointer (some a), .int .u64 153])).run Tryz.prog w = .ok (some (152, a, 153)) w := by kernel_rfl
theorem Tryz.direct56 (w : World) : (Rtype.directlyAssignable 152 152).run Tryz.prog w = .ok true w := by kernel_rfl
theorem Tryz.isAgg56 (w : World) : (isAgg 152).run Tryz.prog w = .ok true w := by kernel_rfl
theorem Tryz.sizeOf56 (w : World) : (sizeOf 152).run Tryz.prog w = .ok 2 w := by kernel_rfl

end Go.Proofs.YtfcenohgfhefiaaGreatDoor

/- errors.As at the program's own kind of error: the library's text walked. -/
namespace Go.Proofs.YtfcenohgfhefiaaGreatDoor
open Go.RowKit Go.Extern.Stop Go.Stop Go.Extern

theorem Tryz.load56 (b : Nat) (v0 v1 : Value) (W : World) (hb0 : W.cell? ⟨b, 0, none⟩ = some v0) (hb1 : W.cell? ⟨b, 1, none⟩ = some v1) :
    (loadVar 152 ⟨b, 0, none⟩).run Tryz.prog W = .ok (.agg #[v0, v1]) W := by
  have hl := run_loadCells_list (P := Tryz.prog) (w := W) ⟨b, 0, none⟩ [v0, v1] (fun j v hj => by
    match j, hj with
    | 0, hj => simp at hj; subst hj; simpa [Addr.add] using hb0
    | 1, hj => simp at hj; subst hj; simpa [Addr.add] using hb1)
  unfold loadVar
  simp only [Sem.run_bind, Tryz.isAgg56, Result.andThen, if_true, Tryz.sizeOf56]
  rw [show (2 : Nat) = [v0, v1].length from rfl, hl]
  rfl
theorem Tryz.store56 (tb : Nat) (v0 v1 o0 o1 : Value) (W : World) (h1 : v0.oneCell' = true) (h2 : v1.oneCell' = true)
    (ht0 : W.cell? ⟨tb, 0, none⟩ = some o0) (ht1 : W.cell? ⟨tb, 1, none⟩ = some o1) (hf0 : W.frozen? ⟨tb, 0, none⟩ = false) (hf1 : W.frozen? ⟨tb, 1, none⟩ = false) :
    (storeVar 152 ⟨tb, 0, none⟩ (.agg #[v0, v1])).run Tryz.prog W = .ok () ((W.setCell ⟨tb, 0, none⟩ v0).setCell ⟨tb, 1, none⟩ v1) := by
  unfold storeVar
  simp only [Sem.run_bind, Tryz.sizeOf56, Result.andThen]
  rw [if_neg (by show ¬ (2 ≠ 2); simp)]
  show (storeCells ⟨tb, 0, none⟩ [v0, v1]).run Tryz.prog W = _
  simp only [storeCells, Sem.run_bind]
  rw [run_store Tryz.prog W _ _ _ h1]
  simp [Addr.add, ht0, hf0, Result.andThen]
  rw [run_store Tryz.prog _ _ _ _ h2]
  have hq : (W.setCell ⟨tb, 0, none⟩ v0).cell? ⟨tb, 1, none⟩ = some o1 := by rw [World.cell?_setCell_other _ _ _ _ (by simp)]; exact ht1
  simp [hq, hf1]

theorem Tryz.set56 (tb b : Nat) (v0 v1 o0 o1 : Value) (W : World) (h1 : v0.oneCell' = true) (h2 : v1.oneCell' = true) (hb0 : W.cell? ⟨b, 0, none⟩ = some v0) (hb1 : W.cell? ⟨b, 1, none⟩ = some v1)
    (ht0 : W.cell? ⟨tb, 0, none⟩ = some o0) (ht1 : W.cell? ⟨tb, 1, none⟩ = some o1) (hf0 : W.frozen? ⟨tb, 0, none⟩ = false) (hf1 : W.frozen? ⟨tb, 1, none⟩ = false) :
    (ReflectliteValue.set #[.agg #[.pointer (some ⟨12, 152, none⟩), .pointer (some ⟨tb, 0, none⟩), .int .u64 409], .agg #[.pointer (some ⟨12, 152, none⟩), .pointer (some ⟨b, 0, none⟩), .int .u64 153]]).run Tryz.prog W
      = .ok (.tuple #[]) ((W.setCell ⟨tb, 0, none⟩ v0).setCell ⟨tb, 1, none⟩ v1) := by
  rw [rls]
  simp only [Sem.run_bind, Tryz.parts56a, Tryz.parts56, Result.andThen]
  rw [if_neg (by decide)]
  simp only [Sem.run_bind, Tryz.load56 b v0 v1 W hb0 hb1, Result.andThen, Tryz.direct56, if_true, Tryz.store56 tb v0 v1 o0 o1 W h1 h2 ht0 ht1 hf0 hf1]
  rfl

set_option maxRecDepth 100000 in
set_option maxHeartbeats 4000000 in
theorem as_hit (part : ByteArray) (e : Addr) (tb : Nat) (o0 o1 : Value) (w : World) (hg : w.cell? ⟨6, 0, none⟩ = some (.iface 200 (.agg #[.pointer (some ⟨12, 118, none⟩)])))
    (ht0 : w.cell? ⟨tb, 0, none⟩ = some o0) (ht1 : w.cell? ⟨tb, 1, none⟩ = some o1) (hf0 : w.frozen? ⟨tb, 0, none⟩ = false) (hf1 : w.frozen? ⟨tb, 1, none⟩ = false) :
    Calls Tryz.prog 144 #[.iface 152 (.agg #[.string part, .iface 222 (.pointer (some e))]), .iface 170 (.pointer (some ⟨tb, 0, none⟩))] w fun ev w' => ev = .returned (.bool true) ∧
      w' = (((((w.alloc (.cells #[.pointer (some ⟨tb, 0, none⟩)] 170)).alloc (.cells #[.pointer (some ⟨12, 170, none⟩), .pointer (some ⟨w.heap.size, 0, none⟩), .int .u64 150] 178)).alloc (.cells #[.pointer (some ⟨12, 170, none⟩), .pointer (some ⟨w.heap.size, 0, none⟩), .int .u64 150] 178)).alloc (.cells #[.string part, .iface 222 (.pointer (some e))] 152)).setCell ⟨tb, 0, none⟩ (.string part)).setCell ⟨tb, 1, none⟩ (.iface 222 (.pointer (some e))) := by
  have h46 := @run_callFunc_extern Tryz.prog 152 _ (fun args => ReflectliteValue.unpack (args.getD 0 (.tuple #[]))) Tryz.func152 (by kernel_rfl) (by kernel_rfl) (by kernel_rfl) (by kernel_rfl)
  have h47 := @run_callFunc_extern Tryz.prog 153 _ (ReflectliteValue.methodAny (ReflectliteValue.valueError "reflectlite.Value.Type" 0) (fun t _ _ _ => ReflectliteType.toType t)) Tryz.func153 (by kernel_rfl) (by kernel_rfl) (by kernel_rfl) (by kernel_rfl)
  have h48 := @run_callFunc_extern Tryz.prog 154 _ (ReflectliteValue.method (ReflectliteValue.valueError "reflectlite.Value.IsNil" 0) ReflectliteValue.isNil) Tryz.func154 (by kernel_rfl) (by kernel_rfl) (by kernel_rfl) (by kernel_rfl)
  have h101 := @run_callFunc_extern Tryz.prog 189 _ (ReflectliteType.abiMethod fun t => do pure (.int .u8 (← Rtype.kind t))) Tryz.func189 (by kernel_rfl) (by kernel_rfl) (by kernel_rfl) (by kernel_rfl)
  have h112 := @run_callFunc_extern Tryz.prog 203 _ (ReflectliteType.method ReflectliteType.elem) Tryz.func203 (by kernel_rfl) (by kernel_rfl) (by kernel_rfl) (by kernel_rfl)
  have h113 := @run_callFunc_extern Tryz.prog 204 _ (ReflectliteType.relation "Implements" ReflectliteType.implements_) Tryz.func204 (by kernel_rfl) (by kernel_rfl) (by kernel_rfl) (by kernel_rfl)
  have h50 := @run_callFunc_extern Tryz.prog 156 _ ReflectliteType.typeOf Tryz.func156 (by kernel_rfl) (by kernel_rfl) (by kernel_rfl) (by kernel_rfl)
  have h110 := @run_callFunc_extern Tryz.prog 201 _ (ReflectliteType.relation "AssignableTo" ReflectliteType.assignableTo) Tryz.func201 (by kernel_rfl) (by kernel_rfl) (by kernel_rfl) (by kernel_rfl)
  have h60 := @run_callFunc_extern Tryz.prog 167 _ (ReflectliteValue.method (ReflectliteValue.valueError "reflectlite.Value.Elem" 0) ReflectliteValue.elem) Tryz.func167 (by kernel_rfl) (by kernel_rfl) (by kernel_rfl) (by kernel_rfl)
  have h61 := @run_callFunc_extern Tryz.prog 168 _ ReflectliteValue.set Tryz.func168 (by kernel_rfl) (by kernel_rfl) (by kernel_rfl) (by kernel_rfl)
  have tO := Tryz.typeOf56
  have mA := Tryz.methodAssignableTo
  have a56 := Tryz.assignable56
  have v56 := Tryz.valueOf56
  have f46 := Tryz.valueOf60
  have f47 := Tryz.type60
  have mK := Tryz.methodKind
  have mE := Tryz.methodElem
  have mI := Tryz.methodImplements
  have k60 := Tryz.kind60
  have k56 := Tryz.kind56
  have e60 := Tryz.elem60
  have i56 := Tryz.implements56
  have n8 := Tryz.isNil60 ⟨w.heap.size, 0, none⟩ ⟨tb, 0, none⟩ ((w.alloc (.cells #[.pointer (some ⟨tb, 0, none⟩)] 170)).alloc (.cells #[.pointer (some ⟨12, 170, none⟩), .pointer (some ⟨w.heap.size, 0, none⟩), .int .u64 150] 178)) (by simp)
  have hlt : 6 < w.heap.size := lt_of_cell hg
  have htl : tb < w.heap.size := lt_of_cell ht0
  have hg2 : ((w.alloc (.cells #[.pointer (some ⟨tb, 0, none⟩)] 170)).alloc (.cells #[.pointer (some ⟨12, 170, none⟩), .pointer (some ⟨w.heap.size, 0, none⟩), .int .u64 150] 178)).cell? ⟨6, 0, none⟩ = some (.iface 200 (.agg #[.pointer (some ⟨12, 118, none⟩)])) :=
    cell_later (bel_one _ _) (cell_later (bel_one _ _) hg)
  have el := Tryz.elemV60 ⟨w.heap.size, 0, none⟩ ⟨tb, 0, none⟩ (((w.alloc (.cells #[.pointer (some ⟨tb, 0, none⟩)] 170)).alloc (.cells #[.pointer (some ⟨12, 170, none⟩), .pointer (some ⟨w.heap.size, 0, none⟩), .int .u64 150] 178)).alloc (.cells #[.pointer (some ⟨12, 170, none⟩), .pointer (some ⟨w.heap.size, 0, none⟩), .int .u64 150] 178)) (cell_later (bel_one _ _) (by simp))
  have bel4 : Below w.heap.size w ((((w.alloc (.cells #[.pointer (some ⟨tb, 0, none⟩)] 170)).alloc (.cells #[.pointer (some ⟨12, 170, none⟩), .pointer (some ⟨w.heap.size, 0, none⟩), .int .u64 150] 178)).alloc (.cells #[.pointer (some ⟨12, 170, none⟩), .pointer (some ⟨w.heap.size, 0, none⟩), .int .u64 150] 178)).alloc (.cells #[.string part, .iface 222 (.pointer (some e))] 152)) :=
    bel_after (bel_after (bel_after (bel_one _ _) (bel_one _ _)) (bel_one _ _)) (bel_one _ _)
  have st := Tryz.set56 tb (w.heap.size + 1 + 1 + 1) (.string part) (.iface 222 (.pointer (some e))) o0 o1 _ rfl rfl
    (by rw [World.cell?_alloc_at _ _ _ _ (by simp)]; rfl) (by rw [World.cell?_alloc_at _ _ _ _ (by simp)]; rfl) (cell_later bel4 ht0) (cell_later bel4 ht1) (frozen_later bel4 htl hf0) (frozen_later bel4 htl hf1)
  clear bel4
  go_enter Tryz.func144, Tryz.ntmps144
  go_wp2
  refine wp_loop_rounds 1 ?_
  rw [rounds_succ]
  go_wp2
  go_ret
  exact ⟨rfl, rfl⟩

end Go.Proofs.YtfcenohgfhefiaaGreatDoor

/- errors.Is at an error of the program's own kind that wraps a sentinel: the library's text walked. -/
namespace Go.Proofs.YtfcenohgfhefiaaGreatDoor
open Go.RowKit Go.Extern.Stop Go.Stop Go.Extern

theorem Tryz.isTypeOf (v : Value) (w : World) : (Extern.ReflectliteType.typeOf #[.iface 222 v]).run Tryz.prog w = .ok (.iface 200 (.agg #[.pointer (some ⟨12, 222, none⟩)])) w := by kernel_rfl
/-- The model's own entry for (rtype).Comparable, whatever it is. -/
theorem Tryz.compEx : ∃ E : Array Value → Sem Value, Extern.find Tryz.f202 = some E ∧ ∀ w : World, (E #[.agg #[.pointer (some ⟨12, 222, none⟩)]]).run Tryz.prog w = .ok (.bool true) w :=
  ⟨Extern.ReflectliteType.method fun t => do Extern.Rtype.noPackHeld "Comparable" t; pure (.bool (← typeInfo t).comparable), by kernel_rfl, fun w => by kernel_rfl⟩
theorem Tryz.isMethodComparable (v : Value) (w : World) : (Go.method 353 200 v "Comparable").run Tryz.prog w = .ok (202, v) w := by kernel_rfl
theorem Tryz.isComp : (Tryz.prog.info? 222).map (·.comparable) = some true := by kernel_rfl
theorem Tryz.isSize : (Tryz.prog.info? 224).map (·.size) = some 1 := by kernel_rfl
theorem Tryz.noIsE (v : Value) (xT : TypeId) (w : World) : (Instr.typeAssert (.iface 222 v) xT 212 true).run Tryz.prog w = .ok (.tuple #[.nilIface, .bool false]) w := run_typeAssert_lacksB Tryz.underlying212 (by kernel_rfl) (by kernel_rfl) v xT w
theorem Tryz.noUnwrapE (v : Value) (xT : TypeId) (w : World) : (Instr.typeAssert (.iface 222 v) xT 207 true).run Tryz.prog w = .ok (.tuple #[.nilIface, .bool false]) w := run_typeAssert_lacksB Tryz.underlying207 (by kernel_rfl) (by kernel_rfl) v xT w
theorem Tryz.noUnwrapsE (v : Value) (xT : TypeId) (w : World) : (Instr.typeAssert (.iface 222 v) xT 209 true).run Tryz.prog w = .ok (.tuple #[.nilIface, .bool false]) w := run_typeAssert_lacksB Tryz.underlying209 (by kernel_rfl) (by kernel_rfl) v xT w
theorem Tryz.noIsW (v : Value) (xT : TypeId) (w : World) : (Instr.typeAssert (.iface 152 v) xT 212 true).run Tryz.prog w = .ok (.tuple #[.nilIface, .bool false]) w := run_typeAssert_lacksB Tryz.underlying212 (by kernel_rfl) (by kernel_rfl) v xT w
theorem Tryz.hasUnwrapW (v : Value) (xT : TypeId) (w : World) : (Instr.typeAssert (.iface 152 v) xT 207 true).run Tryz.prog w = .ok (.tuple #[.iface 152 v, .bool true]) w := run_typeAssert_hasB Tryz.underlying207 (by kernel_rfl) v xT w
theorem Tryz.methodUnwrap (v : Value) (w : World) : (Go.method 353 152 v "Unwrap").run Tryz.prog w = .ok (193, v) w := by kernel_rfl

set_option maxRecDepth 100000 in
set_option maxHeartbeats 4000000 in
theorem is_same (part : ByteArray) (b : Addr) (w : World) :
    Calls Tryz.prog 145 #[.iface 152 (.agg #[.string part, .iface 222 (.pointer (some b))]), .iface 222 (.pointer (some b))] w fun e w' => e = .returned (.bool true) ∧ w' = w.alloc (.cells #[.string part, .iface 222 (.pointer (some b))] 152) := by
  obtain ⟨i, hi, hcmp⟩ := Option.map_eq_some_iff.1 Tryz.isComp
  obtain ⟨j, hj, hjs⟩ := Option.map_eq_some_iff.1 Tryz.isSize
  have h50 := @run_callFunc_extern Tryz.prog 156 _ Extern.ReflectliteType.typeOf Tryz.func156 (by kernel_rfl) (by kernel_rfl) (by kernel_rfl) (by kernel_rfl)
  obtain ⟨E, hE, cT⟩ := Tryz.compEx
  have h111 := @run_callFunc_extern Tryz.prog 202 _ E Tryz.func202 (by kernel_rfl) (by kernel_rfl) (by kernel_rfl) hE
  have tT := Tryz.isTypeOf
  have mR := Tryz.isMethodComparable
  have nW := Tryz.noIsW
  have uW := Tryz.hasUnwrapW
  have mU := Tryz.methodUnwrap
  have heq := run_eql_iface_ptr_same (P := Tryz.prog) (w.alloc (.cells #[.string part, .iface 222 (.pointer (some b))] 152)) b Tryz.underlying118 Tryz.underlying222 hi hcmp hj
  have hty := run_eql_iface_types (P := Tryz.prog) 152 222 (.agg #[.string part, .iface 222 (.pointer (some b))]) (.pointer (some b)) Tryz.underlying118 (by decide) w
  clear hE
  go_enter Tryz.func145, Tryz.ntmps145
  go_wp2
  refine wp_loop_rounds 2 ?_
  rw [rounds_succ]
  go_wp2
  rw [rounds_succ]
  go_wp2
  go_ret
  exact ⟨rfl, rfl⟩

set_option maxRecDepth 100000 in
set_option maxHeartbeats 4000000 in
theorem is_other (part : ByteArray) (a b : Addr) (ca cb : Array Value) (ta tb : TypeId) (w : World) (hne : a ≠ b) (ha : w.heap[a.block]? = some (.cells ca ta (0, 0))) (hb : w.heap[b.block]? = some (.cells cb tb (0, 0))) :
    Calls Tryz.prog 145 #[.iface 152 (.agg #[.string part, .iface 222 (.pointer (some a))]), .iface 222 (.pointer (some b))] w fun e w' => e = .returned (.bool false) ∧ w' = w.alloc (.cells #[.string part, .iface 222 (.pointer (some a))] 152) := by
  obtain ⟨i, hi, hcmp⟩ := Option.map_eq_some_iff.1 Tryz.isComp
  obtain ⟨j, hj, hjs⟩ := Option.map_eq_some_iff.1 Tryz.isSize
  have h50 := @run_callFunc_extern Tryz.prog 156 _ Extern.ReflectliteType.typeOf Tryz.func156 (by kernel_rfl) (by kernel_rfl) (by kernel_rfl) (by kernel_rfl)
  obtain ⟨E, hE, cT⟩ := Tryz.compEx
  have h111 := @run_callFunc_extern Tryz.prog 202 _ E Tryz.func202 (by kernel_rfl) (by kernel_rfl) (by kernel_rfl) hE
  have tT := Tryz.isTypeOf
  have mR := Tryz.isMethodComparable
  have nE := Tryz.noIsE
  have uE := Tryz.noUnwrapE
  have vE := Tryz.noUnwrapsE
  have nW := Tryz.noIsW
  have uW := Tryz.hasUnwrapW
  have mU := Tryz.methodUnwrap
  have lt : ∀ (k : Nat) (o : Obj), w.heap[k]? = some o → k < w.heap.size := fun k o h => by
    rcases Nat.lt_or_ge k w.heap.size with h' | h'
    · exact h'
    · rw [Array.getElem?_eq_none h'] at h; cases h
  have bel := bel_one w (.cells #[.string part, .iface 222 (.pointer (some a))] 152)
  have ha' : (w.alloc (.cells #[.string part, .iface 222 (.pointer (some a))] 152)).heap[a.block]? = some (.cells ca ta (0, 0)) := (bel.block _ (lt _ _ ha)).trans ha
  have hb' : (w.alloc (.cells #[.string part, .iface 222 (.pointer (some a))] 152)).heap[b.block]? = some (.cells cb tb (0, 0)) := (bel.block _ (lt _ _ hb)).trans hb
  have heq := run_eql_iface_ptr_other (P := Tryz.prog) (w.alloc (.cells #[.string part, .iface 222 (.pointer (some a))] 152)) Tryz.underlying118 Tryz.underlying222 hi hcmp hj (by rw [hjs]; decide) hne ha' hb'
  have hty := run_eql_iface_types (P := Tryz.prog) 152 222 (.agg #[.string part, .iface 222 (.pointer (some a))]) (.pointer (some b)) Tryz.underlying118 (by decide) w
  clear ha hb ha' hb' lt bel hE
  go_enter Tryz.func145, Tryz.ntmps145
  go_wp2
  refine wp_loop_rounds 2 ?_
  rw [rounds_succ]
  go_wp2
  rw [rounds_succ]
  go_wp2
  go_ret
  exact ⟨rfl, rfl⟩

end Go.Proofs.YtfcenohgfhefiaaGreatDoor

/- textPart, copyText, copyTexts of the program. -/
namespace Go.Proofs.YtfcenohgfhefiaaGreatDoor
open Go.RowKit

theorem add_eq' (b o i : Nat) : (⟨b, o, none⟩ : Addr).add i = ⟨b, o + i, none⟩ := Addr.add_lit _ _ _

theorem cell_later' {w w' : World} {a : Addr} {v : Value} (hb : Below w.heap.size w w') (h : w.cell? a = some v) : w'.cell? a = some v := by
  have hlt : a.block < w.heap.size := by
    rcases Nat.lt_or_ge a.block w.heap.size with h' | h'
    · exact h'
    · simp [World.cell?, Array.getElem?_eq_none h'] at h
  rw [hb.cell hlt]
  exact h

theorem conv_bytes (w : World) (s : ByteArray) : (convert 9 22 (.string s)).run Tryz.prog w = .ok (.slice (some ⟨w.heap.size, 0, none⟩) s.size (grownCap w s.size 0 5))
      (w.drew.alloc (.cells (bytesRow s (grownCap w s.size 0 5)) 5 ((bytesRow s (grownCap w s.size 0 5)).size, (bytesRow s (grownCap w s.size 0 5)).size + 1))) :=
  run_bytes_of_string w 9 22 5 s (by kernel_rfl) (by kernel_rfl) (by kernel_rfl)

/-- The bytes l lie from a on. -/
def BytesAt (w : World) (a : Addr) (l : List UInt8) : Prop := ∀ j (hj : j < l.length), w.cell? (a.add j) = some (.int .u8 (l[j].toNat : Int))
theorem BytesAt.later {w w' : World} {a : Addr} {l : List UInt8} (h : BytesAt w a l) (hb : Below w.heap.size w w') : BytesAt w' a l := fun j hj => cell_later' hb (h j hj)

def part (s : ByteArray) (f t : Nat) : List UInt8 := (s.data.toList.take t).drop f
theorem part_length (s : ByteArray) (f t : Nat) (h : t ≤ s.size) : (part s f t).length = t - f := by
  have : s.data.size = s.size := rfl
  simp [part]
  omega

theorem row_bytes (w : World) (s : ByteArray) (C f t : Nat) (fr : Nat × Nat) (h : t ≤ s.size) : BytesAt ((w.alloc (.cells (bytesRow s C) 5 fr)).drew) ⟨w.heap.size, f, none⟩ (part s f t) := by
  intro j hj
  have hsz : s.data.size = s.size := rfl
  rw [part_length s f t h] at hj
  rw [add_eq']
  show (w.alloc (.cells (bytesRow s C) 5 fr)).cell? _ = _
  rw [World.cell?_alloc_mark, bytesRow_at s C (f + j) (by omega)]
  simp [part]

set_option maxHeartbeats 400000 in
theorem textPart_any (s : ByteArray) (f t : Nat) (w : World) (_hs : s.size ≤ 1000000000000000) (h1 : f ≤ t) (h2 : t ≤ s.size) :
    Calls Tryz.prog 119 #[.string s, .int .i64 f, .int .i64 t] w fun e w' => ∃ a n, e = .returned (.slice (some a) n n) ∧ n = (part s f t).length ∧ BytesAt w' a (part s f t) ∧ Below w.heap.size w w' := by
  have hcv := conv_bytes
  have hcap : s.size ≤ grownCap w s.size 0 5 := grownCap_ge _ _ _ _
  generalize hC : grownCap w s.size 0 5 = C at *
  have hl := part_length s f t h2
  have HL : Hid ((part s f t).length = t - f) := hl
  have R := row_bytes w s C f t ((bytesRow s C).size, (bytesRow s C).size + 1) h2
  have G := ((Below.refl _ w).alloc (Nat.le_refl _) (.cells (bytesRow s C) 5 ((bytesRow s C).size, (bytesRow s C).size + 1))).drew
  clear hl
  go_enter Tryz.func119, Tryz.ntmps119
  go_wp2
  · go_ret
    have hl0 := part_length s f f (by omega)
    refine ⟨⟨w.heap.size, 0, none⟩, 0, rfl, by omega, fun j hj => ?_, G⟩
    omega
  · go_ret
    exact ⟨⟨w.heap.size, f, none⟩, t - f, rfl, HL.out.symm, R, G⟩

theorem part_all (s : ByteArray) : part s 0 s.size = s.data.toList := by
  unfold part
  rw [List.drop_zero]
  exact List.take_of_length_le (by rw [Array.length_toList]; exact Nat.le_refl _)

theorem conv_back (w : World) (a : Addr) (cap : Nat) (l : List UInt8) (n : Nat) (hn : n = l.length) (h : BytesAt w a l) : (convert 22 9 (.slice (some a) n cap)).run Tryz.prog w = .ok (.string ⟨l.toArray⟩) w := by
  subst hn
  exact run_convert_bytes_back w 22 9 5 a cap l (by kernel_rfl) (by kernel_rfl) (by kernel_rfl) h

set_option maxHeartbeats 400000 in
theorem copyText_any (s : ByteArray) (w : World) (hs : s.size ≤ 1000000000000000) :
    Calls Tryz.prog 94 #[.string s] w fun e w' => e = .returned (.string s) ∧ Below w.heap.size w w' := by
  go_enter Tryz.func94, Tryz.ntmps94
  go_wp2_with (fail)
  refine (textPart_any s 0 s.size _ hs (by omega) (Nat.le_refl _)).mono ?_
  rintro e w1 ⟨a, n, rfl, hn, hB, hb⟩
  have hcv := conv_back w1 a n (part s 0 s.size) n hn hB
  rw [part_all] at hcv
  clear hn hB
  go_wp2
  go_ret
  exact ⟨rfl, hb⟩

end Go.Proofs.YtfcenohgfhefiaaGreatDoor

/- damageCode and OpenPage of the program. -/
namespace Go.Proofs.YtfcenohgfhefiaaGreatDoor
open Go.RowKit

/-- The errors' own rows: each a block that no one shares. -/
structure Rws (a0 a1 a2 a3 : Addr) (w : World) : Prop where
  r0 : ∃ c t, w.heap[a0.block]? = some (.cells c t (0, 0))
  r1 : ∃ c t, w.heap[a1.block]? = some (.cells c t (0, 0))
  r2 : ∃ c t, w.heap[a2.block]? = some (.cells c t (0, 0))
  r3 : ∃ c t, w.heap[a3.block]? = some (.cells c t (0, 0))
theorem row_later {w w' : World} {k : Nat} (hb : Below w.heap.size w w') (h : ∃ c t, w.heap[k]? = some (.cells c t (0, 0))) : ∃ c t, w'.heap[k]? = some (.cells c t (0, 0)) := by
  obtain ⟨c, t, h⟩ := h
  refine ⟨c, t, ?_⟩
  have hlt : k < w.heap.size := by
    rcases Nat.lt_or_ge k w.heap.size with h' | h'
    · exact h'
    · rw [Array.getElem?_eq_none h'] at h; cases h
  rw [hb.block k hlt]
  exact h
theorem Rws.later {a0 a1 a2 a3 : Addr} {w w' : World} (h : Rws a0 a1 a2 a3 w) (hb : Below w.heap.size w w') : Rws a0 a1 a2 a3 w' :=
  ⟨row_later hb h.r0, row_later hb h.r1, row_later hb h.r2, row_later hb h.r3⟩
/-- The four are four. -/
structure Four (a0 a1 a2 a3 : Addr) : Prop where
  n01 : a0 ≠ a1
  n02 : a0 ≠ a2
  n03 : a0 ≠ a3
  n12 : a1 ≠ a2
  n13 : a1 ≠ a3
  n23 : a2 ≠ a3
/-- Where the handle of the type error lies. -/
def Hd (w : World) : Prop := w.cell? ⟨6, 0, none⟩ = some (.iface 200 (.agg #[.pointer (some ⟨12, 118, none⟩)]))

theorem is_no (part : ByteArray) (a b : Addr) (w : World) (hne : a ≠ b) (ha : ∃ c t, w.heap[a.block]? = some (.cells c t (0, 0))) (hb : ∃ c t, w.heap[b.block]? = some (.cells c t (0, 0))) :
    Calls Tryz.prog 145 #[.iface 152 (.agg #[.string part, .iface 222 (.pointer (some a))]), .iface 222 (.pointer (some b))] w fun e w' => e = .returned (.bool false) ∧ w' = w.alloc (.cells #[.string part, .iface 222 (.pointer (some a))] 152) := by
  obtain ⟨ca, ta, ha⟩ := ha
  obtain ⟨cb, tb, hb⟩ := hb
  exact is_other part a b ca cb ta tb w hne ha hb

theorem code_nil (w : World) : Calls Tryz.prog 133 #[.nilIface] w fun e w' => e = .returned (.int .i64 0) ∧ Below w.heap.size w w' := by
  go_enter Tryz.func133, Tryz.ntmps133
  go_wp2_with (go_at_call 144; refine (as_nil _ _).mono ?_; rintro x w1 ⟨rfl, rfl⟩)
  go_ret
  exact ⟨rfl, bel_one _ _⟩

theorem two_set {W : World} {R : Nat} {u0 u1 : Value} (c0 : W.cell? ⟨R, 0, none⟩ = some u0) (c1 : W.cell? ⟨R, 1, none⟩ = some u1) (v0 v1 : Value) :
    ((W.setCell ⟨R, 0, none⟩ v0).setCell ⟨R, 1, none⟩ v1).cell? ⟨R, 0, none⟩ = some v0 ∧ ((W.setCell ⟨R, 0, none⟩ v0).setCell ⟨R, 1, none⟩ v1).cell? ⟨R, 1, none⟩ = some v1 := by
  have h1 : (W.setCell ⟨R, 0, none⟩ v0).cell? ⟨R, 1, none⟩ = some u1 := by rw [World.cell?_setCell_other _ _ _ _ (by simp)]; exact c1
  refine ⟨?_, World.cell?_setCell_same _ _ _ h1⟩
  rw [World.cell?_setCell_other _ _ _ _ (by simp)]
  exact World.cell?_setCell_same _ _ _ c0
/-- Behind errors.As: a world in which the found error lies in block F. -/
theorem as_found (part : ByteArray) (e : Addr) (w : World) (hd : Hd w) :
    Calls Tryz.prog 144 #[errV part e, .iface 170 (.pointer (some ⟨w.heap.size, 0, none⟩))] (w.alloc (.cells #[.string ⟨#[]⟩, .nilIface] 152)) fun ev w' => ev = .returned (.bool true) ∧
      w'.cell? ⟨w.heap.size, 0, none⟩ = some (.string part) ∧ w'.cell? ⟨w.heap.size, 1, none⟩ = some (.iface 222 (.pointer (some e))) ∧ Below w.heap.size w w' ∧ w.heap.size < w'.heap.size := by
  have hb0 := bel_one w (.cells #[.string ⟨#[]⟩, .nilIface] 152)
  refine (as_hit part e w.heap.size (.string ⟨#[]⟩) .nilIface _ (cell_later hb0 hd) (by simp) (by simp) (by simp) (by simp)).mono fun ev w' ⟨he, hw⟩ => ⟨he, ?_⟩
  have hb4 : Below (w.alloc (.cells #[.string ⟨#[]⟩, .nilIface] 152)).heap.size (w.alloc (.cells #[.string ⟨#[]⟩, .nilIface] 152)) _ := bel_after (bel_after (bel_after (bel_one (w.alloc (.cells #[.string ⟨#[]⟩, .nilIface] 152)) (.cells #[.pointer (some ⟨w.heap.size, 0, none⟩)] 170)) (bel_one _ (.cells #[.pointer (some ⟨12, 170, none⟩), .pointer (some ⟨(w.alloc (.cells #[.string ⟨#[]⟩, .nilIface] 152)).heap.size, 0, none⟩), .int .u64 150] 178))) (bel_one _ (.cells #[.pointer (some ⟨12, 170, none⟩), .pointer (some ⟨(w.alloc (.cells #[.string ⟨#[]⟩, .nilIface] 152)).heap.size, 0, none⟩), .int .u64 150] 178))) (bel_one _ (.cells #[.string part, .iface 222 (.pointer (some e))] 152))
  have c0 := cell_later hb4 (b := w.heap.size) (o := 0) (v := .string ⟨#[]⟩) (by simp)
  have c1 := cell_later hb4 (b := w.heap.size) (o := 1) (v := .nilIface) (by simp)
  have hsz := hb4.size
  have hbw := bel_after hb0 hb4
  subst hw
  refine ⟨(two_set c0 c1 _ _).1, (two_set c0 c1 _ _).2, (hbw.setCell (p := ⟨w.heap.size, 0, none⟩) (Nat.le_refl _) _).setCell (p := ⟨w.heap.size, 1, none⟩) (Nat.le_refl _) _, ?_⟩
  show w.heap.size < ((World.setCell _ _ _).setCell _ _).heap.size
  simp [World.setCell]
  omega

set_option maxRecDepth 100000 in
set_option maxHeartbeats 1000000 in
theorem code_2 (part : ByteArray) (a0 a1 a2 a3 : Addr) (w : World) (hd : Hd w) (hR : Errs a0 a1 a2 a3 w) :
    Calls Tryz.prog 133 #[errV part a2] w fun e w' => e = .returned (.int .i64 1) ∧ Below w.heap.size w w' := by
  have A := as_found part a2 w hd
  unfold errV at A ⊢
  go_enter Tryz.func133, Tryz.ntmps133
  go_wp2_with fail
  refine A.mono ?_
  rintro x w1 ⟨rfl, c0, c1, hb1, hlt⟩
  have g := (hR.later hb1).e2
  clear A
  go_wp2_with (go_at_call 145; refine (is_same part a2 _).mono ?_; rintro x w2 ⟨rfl, rfl⟩)
  go_ret
  exact ⟨rfl, bel_after hb1 (bel_one _ _)⟩

set_option maxRecDepth 100000 in
set_option maxHeartbeats 1000000 in
theorem code_3 (part : ByteArray) (a0 a1 a2 a3 : Addr) (w : World) (hd : Hd w) (hR : Errs a0 a1 a2 a3 w) (hF : Four a0 a1 a2 a3) (hW : Rws a0 a1 a2 a3 w) :
    Calls Tryz.prog 133 #[errV part a3] w fun e w' => e = .returned (.int .i64 2) ∧ Below w.heap.size w w' := by
  have A := as_found part a3 w hd
  unfold errV at A ⊢
  go_enter Tryz.func133, Tryz.ntmps133
  go_wp2_with fail
  refine A.mono ?_
  rintro x w1 ⟨rfl, c0, c1, hb1, hlt⟩
  have g := (hR.later hb1).e2
  have hW1 := hW.later hb1
  clear A
  go_wp2_with fail
  refine (is_no part a3 a2 _ hF.n23.symm hW1.r3 hW1.r2).mono ?_
  rintro x w2 ⟨rfl, hw2⟩
  have hb2 : Below w1.heap.size w1 w2 := by rw [hw2]; exact bel_one _ _
  have d0 := cell_later hb2 c0
  have d1 := cell_later hb2 c1
  have hbw := bel_after hb1 hb2
  have g3 := (hR.later hbw).e3
  clear hw2 c0 c1 g hW1
  go_wp2_with (go_at_call 145; refine (is_same part a3 _).mono ?_; rintro x w3 ⟨rfl, rfl⟩)
  go_ret
  exact ⟨rfl, bel_after hbw (bel_one _ _)⟩

set_option maxRecDepth 100000 in
set_option maxHeartbeats 1000000 in
theorem code_0 (part : ByteArray) (a0 a1 a2 a3 : Addr) (w : World) (hd : Hd w) (hR : Errs a0 a1 a2 a3 w) (hF : Four a0 a1 a2 a3) (hW : Rws a0 a1 a2 a3 w) :
    Calls Tryz.prog 133 #[errV part a0] w fun e w' => e = .returned (.int .i64 3) ∧ Below w.heap.size w w' := by
  have A := as_found part a0 w hd
  unfold errV at A ⊢
  go_enter Tryz.func133, Tryz.ntmps133
  go_wp2_with fail
  refine A.mono ?_
  rintro x w1 ⟨rfl, c0, c1, hb1, hlt⟩
  have g := (hR.later hb1).e2
  have hW1 := hW.later hb1
  clear A
  go_wp2_with fail
  refine (is_no part a0 a2 _ hF.n02 hW1.r0 hW1.r2).mono ?_
  rintro x w2 ⟨rfl, hw2⟩
  have hb2 : Below w1.heap.size w1 w2 := by rw [hw2]; exact bel_one _ _
  have d0 := cell_later hb2 c0
  have d1 := cell_later hb2 c1
  have hbw := bel_after hb1 hb2
  have g3 := (hR.later hbw).e3
  have hW2 := hW.later hbw
  clear hw2 c0 c1 g hW1
  go_wp2_with fail
  refine (is_no part a0 a3 _ hF.n03 hW2.r0 hW2.r3).mono ?_
  rintro x w3 ⟨rfl, hw3⟩
  have hb3 : Below w2.heap.size w2 w3 := by rw [hw3]; exact bel_one _ _
  have e0 := cell_later hb3 d0
  have e1 := cell_later hb3 d1
  have hbw3 := bel_after hbw hb3
  have g4 := (hR.later hbw3).e0
  clear hw3 d0 d1 g3 hW2
  go_wp2_with (go_at_call 145; refine (is_same part a0 _).mono ?_; rintro x w4 ⟨rfl, rfl⟩)
  go_ret
  exact ⟨rfl, bel_after hbw3 (bel_one _ _)⟩

set_option maxRecDepth 100000 in
set_option maxHeartbeats 1000000 in
theorem code_1 (part : ByteArray) (a0 a1 a2 a3 : Addr) (w : World) (hd : Hd w) (hR : Errs a0 a1 a2 a3 w) (hF : Four a0 a1 a2 a3) (hW : Rws a0 a1 a2 a3 w) :
    Calls Tryz.prog 133 #[errV part a1] w fun e w' => e = .returned (.int .i64 4) ∧ Below w.heap.size w w' := by
  have A := as_found part a1 w hd
  unfold errV at A ⊢
  go_enter Tryz.func133, Tryz.ntmps133
  go_wp2_with fail
  refine A.mono ?_
  rintro x w1 ⟨rfl, c0, c1, hb1, hlt⟩
  have g := (hR.later hb1).e2
  have hW1 := hW.later hb1
  clear A
  go_wp2_with fail
  refine (is_no part a1 a2 _ hF.n12 hW1.r1 hW1.r2).mono ?_
  rintro x w2 ⟨rfl, hw2⟩
  have hb2 : Below w1.heap.size w1 w2 := by rw [hw2]; exact bel_one _ _
  have d0 := cell_later hb2 c0
  have d1 := cell_later hb2 c1
  have hbw := bel_after hb1 hb2
  have g3 := (hR.later hbw).e3
  have hW2 := hW.later hbw
  clear hw2 c0 c1 g hW1
  go_wp2_with fail
  refine (is_no part a1 a3 _ hF.n13 hW2.r1 hW2.r3).mono ?_
  rintro x w3 ⟨rfl, hw3⟩
  have hb3 : Below w2.heap.size w2 w3 := by rw [hw3]; exact bel_one _ _
  have e0 := cell_later hb3 d0
  have e1 := cell_later hb3 d1
  have hbw3 := bel_after hbw hb3
  have g4 := (hR.later hbw3).e0
  have hW3 := hW.later hbw3
  clear hw3 d0 d1 g3 hW2
  go_wp2_with (go_at_call 145; refine (is_no part a1 a0 _ hF.n01.symm hW3.r1 hW3.r0).mono ?_; rintro x w4 ⟨rfl, rfl⟩)
  go_ret
  exact ⟨rfl, bel_after hbw3 (bel_one _ _)⟩

end Go.Proofs.YtfcenohgfhefiaaGreatDoor

/- OpenPage of the program. -/
namespace Go.Proofs.YtfcenohgfhefiaaGreatDoor
open Go.RowKit

structure Ctx (a0 a1 a2 a3 : Addr) (w : World) : Prop where
  env : Env w
  errs : Errs a0 a1 a2 a3 w
  rws : Rws a0 a1 a2 a3 w
  hd : Hd w
  four : Four a0 a1 a2 a3
theorem Ctx.later {a0 a1 a2 a3 : Addr} {w w' : World} (h : Ctx a0 a1 a2 a3 w) (hb : Below w.heap.size w w') : Ctx a0 a1 a2 a3 w' :=
  ⟨h.env.later hb, h.errs.later hb, h.rws.later hb, cell_later hb h.hd, h.four⟩

set_option maxRecDepth 100000 in
set_option maxHeartbeats 1000000 in
theorem open_err (s : ByteArray) (a : Addr) (k : Int) (w : World) (hk : k ≠ 0)
    (A : Calls Tryz.prog 132 #[.string s] w fun x w' => (∃ part, x = .returned (.tuple #[pageV 0 0 0 ⟨#[]⟩, errV part a])) ∧ Below w.heap.size w w')
    (D : ∀ part w', Below w.heap.size w w' → Calls Tryz.prog 133 #[errV part a] w' fun e w'' => e = .returned (.int .i64 k) ∧ Below w'.heap.size w' w'') :
    Calls Tryz.prog 123 #[.string s] w fun x w' => x = .returned (openV (0, 0, ⟨#[]⟩, k)) ∧ Below w.heap.size w w' := by
  have hk' : (k != 0) = true := by simpa using hk
  unfold pageV errV at A
  unfold errV at D
  go_enter Tryz.func123, Tryz.ntmps123
  go_wp2_with fail
  refine A.mono ?_
  rintro x w1 ⟨⟨part, rfl⟩, hb1⟩
  have hb2 := bel_after hb1 (bel_one w1 (.cells #[.int .i64 0, .int .i64 0, .int .i64 0, .string ⟨#[]⟩] 134))
  have D1 := D part _ hb2
  go_wp2_with fail
  refine D1.mono ?_
  rintro x w3 ⟨rfl, hb3⟩
  go_wp2
  exact bodyPost_ret (v := openV (0, 0, ⟨#[]⟩, k)) (by simp [results, Tryz.results123, go_sem, openV]) rfl ⟨rfl, bel_after hb2 hb3⟩

set_option maxRecDepth 100000 in
set_option maxHeartbeats 3200000 in
theorem open_ok (s : ByteArray) (n e c : Int) (b : ByteArray) (w : World) (hb : b.size ≤ 1000000000000)
    (A : Calls Tryz.prog 132 #[.string s] w fun x w' => x = .returned (.tuple #[pageV n e c b, .nilIface]) ∧ Below w.heap.size w w') :
    Calls Tryz.prog 123 #[.string s] w fun x w' => x = .returned (openV (n, e, b, 0)) ∧ Below w.heap.size w w' := by
  unfold pageV at A
  go_enter Tryz.func123, Tryz.ntmps123
  go_wp2_with fail
  refine A.mono ?_
  rintro x w1 ⟨rfl, hb1⟩
  have hb2 := bel_after hb1 (bel_one w1 (.cells #[.int .i64 n, .int .i64 e, .int .i64 c, .string b] 134))
  go_wp2_with fail
  refine (code_nil _).mono ?_
  rintro x w3 ⟨rfl, hb3⟩
  have q0 : w3.cell? ⟨w1.heap.size, 0, none⟩ = some (.int .i64 n) := cell_later hb3 (by simp)
  have q1 : w3.cell? ⟨w1.heap.size, 1, none⟩ = some (.int .i64 e) := cell_later hb3 (by simp)
  have q2 : w3.cell? ⟨w1.heap.size, 2, none⟩ = some (.int .i64 c) := cell_later hb3 (by simp)
  have q3 : w3.cell? ⟨w1.heap.size, 3, none⟩ = some (.string b) := cell_later hb3 (by simp)
  have hbw := bel_after hb2 hb3
  clear A hb1 hb2 hb3
  go_wp2_with fail
  go_region_held3 (fun w' => Below w3.heap.size w3 w' ∧ w'.cell? ⟨w1.heap.size, 0, none⟩ = some (.int .i64 n) ∧ w'.cell? ⟨w1.heap.size, 1, none⟩ = some (.int .i64 e) ∧ w'.cell? ⟨w1.heap.size, 2, none⟩ = some (.int .i64 c) ∧ w'.cell? ⟨w1.heap.size, 3, none⟩ = some (.string b))
      (first | assumption | (refine ⟨(Below.refl _ _).drew, ?_, ?_, ?_, ?_⟩ <;> simp [q0, q1, q2, q3]) | (exact keep4 (by assumption) (by assumption)))
      (first
        | (go_at_call 94; refine (copyText_any _ _ (by omega)).mono ?_; rintro x w4 ⟨rfl, hb4⟩))
  all_goals
    go_wp2
    exact bodyPost_ret (v := openV (n, e, b, 0)) (by simp [results, Tryz.results123, go_sem, openV]) rfl ⟨rfl, bel_after hbw (And.left (by assumption))⟩

theorem implOpen_any (s : ByteArray) (a0 a1 a2 a3 : Addr) (w : World) (hs : s.size < 4294967281) (hC : Ctx a0 a1 a2 a3 w) :
    Calls Tryz.prog 123 #[.string s] w fun x w' => x = .returned (openV (openR s)) ∧ Below w.heap.size w w' := by
  have R := readPage_any s a0 a1 a2 a3 w hs hC.env hC.errs
  unfold readV at R
  by_cases h0 : s = ⟨#[]⟩
  · have e0 : openR s = (0, 0, ⟨#[]⟩, 1) := by unfold openR; rw [if_pos h0]
    rw [e0]
    simp only [if_pos h0] at R
    exact open_err s a2 1 w (by decide) R fun part w' hb => code_2 part a0 a1 a2 a3 w' (hC.later hb).hd (hC.later hb).errs
  simp only [if_neg h0] at R
  cases hf : formN s.data.toList with
  | none =>
    rw [hf] at R
    rw [openR_form h0 hf]
    exact open_err s a3 2 w (by decide) R fun part w' hb => code_3 part a0 a1 a2 a3 w' (hC.later hb).hd (hC.later hb).errs hC.four (hC.later hb).rws
  | some x =>
    obtain ⟨n, e, c, b⟩ := x
    rw [hf] at R
    simp only at R
    obtain ⟨_, _, _, _, k4⟩ := form_range hf
    have k5 : s.data.toList.length = s.size := Array.length_toList
    cases hp : pgOk n e (bytesOf b)
    · rw [openR_range h0 hf hp]
      simp only [formV_range hp] at R
      exact open_err s a0 3 w (by decide) R fun part w' hb => code_0 part a0 a1 a2 a3 w' (hC.later hb).hd (hC.later hb).errs hC.four (hC.later hb).rws
    · by_cases hc : crcS (headS n e ++ bytesOf b) = c
      · rw [openR_is h0 hf hp hc]
        simp only [formV_is hp hc] at R
        exact open_ok s n e c (bytesOf b) w (by rw [bytesOf_size]; omega) (R.mono fun x w' ⟨⟨_, he⟩, hb⟩ => ⟨he, hb⟩)
      · rw [openR_sum h0 hf hp hc]
        simp only [formV_sum hp hc] at R
        exact open_err s a1 4 w (by decide) R fun part w' hb => code_1 part a0 a1 a2 a3 w' (hC.later hb).hd (hC.later hb).errs hC.four (hC.later hb).rws

end Go.Proofs.YtfcenohgfhefiaaGreatDoor
