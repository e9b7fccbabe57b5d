/- errors.As at the program's own kind of error: the library's text walked. -/
import Derived.Test.YtjclpbaiiklhcaaGreatDoorZAsF
namespace Go.Proofs.YtjclpbaiiklhcaaGreatDoor
open Go.RowKit Go.Extern.Stop Go.Stop Go.Extern

theorem Tryz.load56 (b : Nat) (v0 v1 : Value) (W : World) (hb0 : W.cell? ⟨b, 0, none⟩ = some v0) (hb1 : W.cell? ⟨b, 1, none⟩ = some v1) :
    (loadVar 122 ⟨b, 0, none⟩).run Tryz.prog W = .ok (.agg #[v0, v1]) W := by
  have hl := run_loadCells_list (P := Tryz.prog) (w := W) ⟨b, 0, none⟩ [v0, v1] (fun j v hj => by
    match j, hj with
    | 0, hj => simp at hj; subst hj; simpa [Addr.add] using hb0
    | 1, hj => simp at hj; subst hj; simpa [Addr.add] using hb1)
  unfold loadVar
  simp only [Sem.run_bind, Tryz.isAgg56, Result.andThen, if_true, Tryz.sizeOf56]
  rw [show (2 : Nat) = [v0, v1].length from rfl, hl]
  rfl
theorem Tryz.store56 (tb : Nat) (v0 v1 o0 o1 : Value) (W : World) (h1 : v0.oneCell' = true) (h2 : v1.oneCell' = true)
    (ht0 : W.cell? ⟨tb, 0, none⟩ = some o0) (ht1 : W.cell? ⟨tb, 1, none⟩ = some o1) (hf0 : W.frozen? ⟨tb, 0, none⟩ = false) (hf1 : W.frozen? ⟨tb, 1, none⟩ = false) :
    (storeVar 122 ⟨tb, 0, none⟩ (.agg #[v0, v1])).run Tryz.prog W = .ok () ((W.setCell ⟨tb, 0, none⟩ v0).setCell ⟨tb, 1, none⟩ v1) := by
  unfold storeVar
  simp only [Sem.run_bind, Tryz.sizeOf56, Result.andThen]
  rw [if_neg (by show ¬ (2 ≠ 2); simp)]
  show (storeCells ⟨tb, 0, none⟩ [v0, v1]).run Tryz.prog W = _
  simp only [storeCells, Sem.run_bind]
  rw [run_store Tryz.prog W _ _ _ h1]
  simp [Addr.add, ht0, hf0, Result.andThen]
  rw [run_store Tryz.prog _ _ _ _ h2]
  have hq : (W.setCell ⟨tb, 0, none⟩ v0).cell? ⟨tb, 1, none⟩ = some o1 := by rw [World.cell?_setCell_other _ _ _ _ (by simp)]; exact ht1
  simp [hq, hf1]

theorem Tryz.set56 (tb b : Nat) (v0 v1 o0 o1 : Value) (W : World) (h1 : v0.oneCell' = true) (h2 : v1.oneCell' = true) (hb0 : W.cell? ⟨b, 0, none⟩ = some v0) (hb1 : W.cell? ⟨b, 1, none⟩ = some v1)
    (ht0 : W.cell? ⟨tb, 0, none⟩ = some o0) (ht1 : W.cell? ⟨tb, 1, none⟩ = some o1) (hf0 : W.frozen? ⟨tb, 0, none⟩ = false) (hf1 : W.frozen? ⟨tb, 1, none⟩ = false) :
    (ReflectliteValue.set #[.agg #[.pointer (some ⟨12, 122, none⟩), .pointer (some ⟨tb, 0, none⟩), .int .u64 409], .agg #[.pointer (some ⟨12, 122, none⟩), .pointer (some ⟨b, 0, none⟩), .int .u64 153]]).run Tryz.prog W
      = .ok (.tuple #[]) ((W.setCell ⟨tb, 0, none⟩ v0).setCell ⟨tb, 1, none⟩ v1) := by
  rw [rls]
  simp only [Sem.run_bind, Tryz.parts56a, Tryz.parts56, Result.andThen]
  rw [if_neg (by decide)]
  simp only [Sem.run_bind, Tryz.load56 b v0 v1 W hb0 hb1, Result.andThen, Tryz.direct56, if_true, Tryz.store56 tb v0 v1 o0 o1 W h1 h2 ht0 ht1 hf0 hf1]
  rfl

set_option maxRecDepth 100000 in
set_option maxHeartbeats 4000000 in
theorem as_hit (part : ByteArray) (e : Addr) (tb : Nat) (o0 o1 : Value) (w : World) (hg : w.cell? ⟨6, 0, none⟩ = some (.iface 176 (.agg #[.pointer (some ⟨12, 92, none⟩)])))
    (ht0 : w.cell? ⟨tb, 0, none⟩ = some o0) (ht1 : w.cell? ⟨tb, 1, none⟩ = some o1) (hf0 : w.frozen? ⟨tb, 0, none⟩ = false) (hf1 : w.frozen? ⟨tb, 1, none⟩ = false) :
    Calls Tryz.prog 109 #[.iface 122 (.agg #[.string part, .iface 200 (.pointer (some e))]), .iface 142 (.pointer (some ⟨tb, 0, none⟩))] w fun ev w' => ev = .returned (.bool true) ∧
      w' = (((((w.alloc (.cells #[.pointer (some ⟨tb, 0, none⟩)] 142)).alloc (.cells #[.pointer (some ⟨12, 142, none⟩), .pointer (some ⟨w.heap.size, 0, none⟩), .int .u64 150] 155)).alloc (.cells #[.pointer (some ⟨12, 142, none⟩), .pointer (some ⟨w.heap.size, 0, none⟩), .int .u64 150] 155)).alloc (.cells #[.string part, .iface 200 (.pointer (some e))] 122)).setCell ⟨tb, 0, none⟩ (.string part)).setCell ⟨tb, 1, none⟩ (.iface 200 (.pointer (some e))) := by
  have h46 := @run_callFunc_extern Tryz.prog 120 _ (fun args => ReflectliteValue.unpack (args.getD 0 (.tuple #[]))) Tryz.func120 (by kernel_rfl) (by kernel_rfl) (by kernel_rfl) (by kernel_rfl)
  have h47 := @run_callFunc_extern Tryz.prog 121 _ (ReflectliteValue.methodAny (ReflectliteValue.valueError "reflectlite.Value.Type" 0) (fun t _ _ _ => ReflectliteType.toType t)) Tryz.func121 (by kernel_rfl) (by kernel_rfl) (by kernel_rfl) (by kernel_rfl)
  have h48 := @run_callFunc_extern Tryz.prog 122 _ (ReflectliteValue.method (ReflectliteValue.valueError "reflectlite.Value.IsNil" 0) ReflectliteValue.isNil) Tryz.func122 (by kernel_rfl) (by kernel_rfl) (by kernel_rfl) (by kernel_rfl)
  have h101 := @run_callFunc_extern Tryz.prog 159 _ (ReflectliteType.abiMethod fun t => do pure (.int .u8 (← Rtype.kind t))) Tryz.func159 (by kernel_rfl) (by kernel_rfl) (by kernel_rfl) (by kernel_rfl)
  have h112 := @run_callFunc_extern Tryz.prog 173 _ (ReflectliteType.method ReflectliteType.elem) Tryz.func173 (by kernel_rfl) (by kernel_rfl) (by kernel_rfl) (by kernel_rfl)
  have h113 := @run_callFunc_extern Tryz.prog 174 _ (ReflectliteType.relation "Implements" ReflectliteType.implements_) Tryz.func174 (by kernel_rfl) (by kernel_rfl) (by kernel_rfl) (by kernel_rfl)
  have h50 := @run_callFunc_extern Tryz.prog 124 _ ReflectliteType.typeOf Tryz.func124 (by kernel_rfl) (by kernel_rfl) (by kernel_rfl) (by kernel_rfl)
  have h110 := @run_callFunc_extern Tryz.prog 171 _ (ReflectliteType.relation "AssignableTo" ReflectliteType.assignableTo) Tryz.func171 (by kernel_rfl) (by kernel_rfl) (by kernel_rfl) (by kernel_rfl)
  have h60 := @run_callFunc_extern Tryz.prog 137 _ (ReflectliteValue.method (ReflectliteValue.valueError "reflectlite.Value.Elem" 0) ReflectliteValue.elem) Tryz.func137 (by kernel_rfl) (by kernel_rfl) (by kernel_rfl) (by kernel_rfl)
  have h61 := @run_callFunc_extern Tryz.prog 138 _ ReflectliteValue.set Tryz.func138 (by kernel_rfl) (by kernel_rfl) (by kernel_rfl) (by kernel_rfl)
  have tO := Tryz.typeOf56
  have mA := Tryz.methodAssignableTo
  have a56 := Tryz.assignable56
  have v56 := Tryz.valueOf56
  have f46 := Tryz.valueOf60
  have f47 := Tryz.type60
  have mK := Tryz.methodKind
  have mE := Tryz.methodElem
  have mI := Tryz.methodImplements
  have k60 := Tryz.kind60
  have k56 := Tryz.kind56
  have e60 := Tryz.elem60
  have i56 := Tryz.implements56
  have n8 := Tryz.isNil60 ⟨w.heap.size, 0, none⟩ ⟨tb, 0, none⟩ ((w.alloc (.cells #[.pointer (some ⟨tb, 0, none⟩)] 142)).alloc (.cells #[.pointer (some ⟨12, 142, none⟩), .pointer (some ⟨w.heap.size, 0, none⟩), .int .u64 150] 155)) (by simp)
  have hlt : 6 < w.heap.size := lt_of_cell hg
  have htl : tb < w.heap.size := lt_of_cell ht0
  have hg2 : ((w.alloc (.cells #[.pointer (some ⟨tb, 0, none⟩)] 142)).alloc (.cells #[.pointer (some ⟨12, 142, none⟩), .pointer (some ⟨w.heap.size, 0, none⟩), .int .u64 150] 155)).cell? ⟨6, 0, none⟩ = some (.iface 176 (.agg #[.pointer (some ⟨12, 92, none⟩)])) :=
    cell_later (bel_one _ _) (cell_later (bel_one _ _) hg)
  have el := Tryz.elemV60 ⟨w.heap.size, 0, none⟩ ⟨tb, 0, none⟩ (((w.alloc (.cells #[.pointer (some ⟨tb, 0, none⟩)] 142)).alloc (.cells #[.pointer (some ⟨12, 142, none⟩), .pointer (some ⟨w.heap.size, 0, none⟩), .int .u64 150] 155)).alloc (.cells #[.pointer (some ⟨12, 142, none⟩), .pointer (some ⟨w.heap.size, 0, none⟩), .int .u64 150] 155)) (cell_later (bel_one _ _) (by simp))
  have bel4 : Below w.heap.size w ((((w.alloc (.cells #[.pointer (some ⟨tb, 0, none⟩)] 142)).alloc (.cells #[.pointer (some ⟨12, 142, none⟩), .pointer (some ⟨w.heap.size, 0, none⟩), .int .u64 150] 155)).alloc (.cells #[.pointer (some ⟨12, 142, none⟩), .pointer (some ⟨w.heap.size, 0, none⟩), .int .u64 150] 155)).alloc (.cells #[.string part, .iface 200 (.pointer (some e))] 122)) :=
    bel_after (bel_after (bel_after (bel_one _ _) (bel_one _ _)) (bel_one _ _)) (bel_one _ _)
  have st := Tryz.set56 tb (w.heap.size + 1 + 1 + 1) (.string part) (.iface 200 (.pointer (some e))) o0 o1 _ rfl rfl
    (by rw [World.cell?_alloc_at _ _ _ _ (by simp)]; rfl) (by rw [World.cell?_alloc_at _ _ _ _ (by simp)]; rfl) (cell_later bel4 ht0) (cell_later bel4 ht1) (frozen_later bel4 htl hf0) (frozen_later bel4 htl hf1)
  clear bel4
  go_enter Tryz.func109, Tryz.ntmps109
  go_wp2
  refine wp_loop_rounds 1 ?_
  rw [rounds_succ]
  go_wp2
  go_ret
  exact ⟨rfl, rfl⟩

end Go.Proofs.YtjclpbaiiklhcaaGreatDoor
