/- A disk drawn: one late write too many, or a wrong one. (written by tools/gen_f.py) -/
import Derived.Test.YtjclpbaiiklhcaaGreatDoorZV20
namespace Go.Proofs.YtjclpbaiiklhcaaGreatDoor
open Go.RowKit

section
variable {P : Program} {md : Region.Mode} {ops : Array Oper} {Q : Exit → Act → World → Prop} {R : Act → World → Prop} {S : World → Prop} {z : Nat}
/-- One of two operations comes up. -/
theorem z_or {i j fuel : Nat} {listed : Array Bool} {a : Act} {w : World} (hr : Region.ready md ops listed = [i, j])
    (h1 : wpOp P ops Q i (fun a' w' => (i = z ∨ S w') ∧ Disk.wpAnyZ P md ops Q z S fuel (listed.setIfInBounds i true) a' w') a w)
    (h2 : wpOp P ops Q j (fun a' w' => (j = z ∨ S w') ∧ Disk.wpAnyZ P md ops Q z S fuel (listed.setIfInBounds j true) a' w') a w) : Disk.wpAnyZ P md ops Q z S (fuel + 1) listed a w := by
  refine ⟨fun h0 => (by rw [hr] at h0; cases h0), fun k hk => ?_⟩
  rw [hr] at hk
  simp at hk
  rcases hk with rfl | rfl
  · exact h1
  · exact h2
theorem o_run (i d : Nat) {oi : Oper} {v : Value} {fuel : Nat} {listed : Array Bool} {T : Array Value} {D : List Deferred} {w w' : World} (hi : ops[i]? = some oi) (hd : oi.dst = some d)
    (hw : Region.wanted oi (yielded ops T) = true) (hy : (execOp (Act.eval ⟨T, D⟩) oi).run P w = .ok (.value v) w') (hS : i = z ∨ S w')
    (h : Disk.wpAnyZ P md ops (Disk.Ends R) z S fuel (listed.setIfInBounds i true) ⟨T.setIfInBounds d v, D⟩ w') : wpOp P ops (Disk.Ends R) i (fun a' w' => (i = z ∨ S w') ∧ Disk.wpAnyZ P md ops (Disk.Ends R) z S fuel (listed.setIfInBounds i true) a' w') ⟨T, D⟩ w := by
  refine Disk.wpOp_of hi hw ?_
  unfold Oper.wp
  rw [hy]
  refine ⟨hS, ?_⟩
  rw [hd]
  exact h
theorem o_call (i d : Nat) {oi : Oper} {f : FuncId} {args : Array Value} {fuel : Nat} {listed : Array Bool} {T : Array Value} {D : List Deferred} {w w0 : World} (hi : ops[i]? = some oi) (hd : oi.dst = some d)
    (hw : Region.wanted oi (yielded ops T) = true) (hy : (execOp (Act.eval ⟨T, D⟩) oi).run P w = .ok (.enter f args) w0)
    (h : Calls P f args w0 fun e w' => ∃ v, e = .returned v ∧ (i = z ∨ S w') ∧ Disk.wpAnyZ P md ops (Disk.Ends R) z S fuel (listed.setIfInBounds i true) ⟨T.setIfInBounds d v, D⟩ w') : wpOp P ops (Disk.Ends R) i (fun a' w' => (i = z ∨ S w') ∧ Disk.wpAnyZ P md ops (Disk.Ends R) z S fuel (listed.setIfInBounds i true) a' w') ⟨T, D⟩ w := by
  refine Disk.wpOp_of hi hw ?_
  unfold Oper.wp
  rw [hy]
  refine h.mono ?_
  rintro e w' ⟨v, rfl, hS, h⟩
  refine ⟨hS, ?_⟩
  rw [hd]
  exact h
end

theorem exec_appW {o : Oper} {a : Act} {w w' : World} {u : Value} (s x : Operand) (ho : o.op = .call { callee := .builtin .append, args := #[s, x], argTypes := #[25, 25] }) (v y : Value) (hs : a.eval s = v) (hx : a.eval x = y)
    (hr : (Builtin.append_ #[25, 25] o.type #[v, y]).run Tryz.prog w = .ok u w') : (execOp a.eval o).run Tryz.prog w = .ok (.value u) w' := by
  unfold execOp
  simp only [ho, resolve, invoke, builtin, Sem.run_bind, Sem.run_pure, Result.andThen_ok, List.map_toArray, List.map_cons, List.map_nil, hs, hx, hr]

def z257 : ByteArray := ⟨(List.replicate 257 (0 : UInt8)).toArray⟩
/-- A block of cells. -/
def Bk (w : World) (b : Nat) (c : Array Value) (t : TypeId) : Prop := w.heap[b]? = some (.cells c t (0, 0))
theorem Bk.lt {w : World} {b : Nat} {c : Array Value} {t : TypeId} (h : Bk w b c t) : b < w.heap.size := (Array.getElem?_eq_some_iff.1 h).1
theorem Bk.grown {w w' : World} {b : Nat} {c : Array Value} {t : TypeId} {r : Option Nat} (h : Bk w b c t) (g : w.grownBy w' r) (hr : some b ≠ r) : Bk w' b c t := (g.block b h.lt hr).trans h
theorem Bk.al {w : World} {b : Nat} {c : Array Value} {t : TypeId} (h : Bk w b c t) (o : Obj) : Bk (w.alloc o) b c t := h.grown (galloc w o none) (by simp)
theorem Bk.new (w : World) (c : Array Value) (t : TypeId) : Bk (w.alloc (.cells c t)) w.heap.size c t := heap_alloc_new w _
theorem Bk.cell {w : World} {b : Nat} {c : Array Value} {t : TypeId} (h : Bk w b c t) {i : Nat} {v : Value} (hv : c[i]? = some v) : w.cell? ⟨b, i, none⟩ = some v := by
  simp [World.cell?, show w.heap[b]? = _ from h, hv]
theorem zeros_any {w : World} {b : Nat} (n : Nat) (h : Bk w b (madeCells #[.int .u8 0] n) 5) : (convert 22 9 (.slice (some ⟨b, 0, none⟩) n n)).run Tryz.prog w = .ok (.string ⟨(List.replicate n (0 : UInt8)).toArray⟩) w := by
  refine conv_back w ⟨b, 0, none⟩ n (List.replicate n (0 : UInt8)) n (by rw [List.length_replicate]) ?_
  intro j hj
  rw [List.length_replicate] at hj
  rw [Addr.add_lit, Nat.zero_add]
  refine h.cell ?_
  simp [madeCells, hj, Nat.mod_one]
theorem zeros_text {w : World} {b : Nat} (h : Bk w b (madeCells #[.int .u8 0] 257) 5) : (convert 22 9 (.slice (some ⟨b, 0, none⟩) 257 257)).run Tryz.prog w = .ok (.string z257) w := zeros_any 257 h
theorem late_of {w W : World} {N D : Nat} {cv : Value} {cs : List UInt8} {u1 u2 x2 : Value} {ss : List ByteArray} {ws' : List Disk.Wr} (d : Dw N cv cs W) (g : w.grownBy W (some N)) (bx : Bx W D u1 u2) (lo : w.heap.size < D) (rs : Bx W w.heap.size (.slice none 0 0) (.slice none 0 0)) (ns : Disk.NS w.heap.size W u1 ss) (l1 : ss.length = 64) (cp : Disk.CapS u1) (sz : ∀ s ∈ ss, s.size ≤ 257) (hbr : BR w cv cs) (hN : N < w.heap.size) (no : Disk.NO w.heap.size W x2 ws') (l2 : ws'.length ≤ 300) :
    Dd w N cv cs D (W.setCell ⟨D, 1, none⟩ x2) u1 x2 ss ws' := by
  have k : W.grownBy (W.setCell ⟨D, 1, none⟩ x2) (some D) := gset1 W D 1 x2
  have hsz := g.size
  obtain ⟨g, d⟩ := dw_off hbr hN (by omega : w.heap.size ≤ D) g d k
  refine ⟨d, g, ?_, lo, rs.grown k (fun e => by have := Option.some.inj e; omega), ns_sep ns k (os_sep ns.1 bx (by decide)), no_sep no k bx (by decide), l1, l2, cp, sz⟩
  unfold Bx
  simp [World.setCell, Array.getElem?_modify, show W.heap[D]? = _ from bx]
/-- The row that late writes are appended to. -/
theorem no_row {B : Nat} {w : World} {v : Value} {ws : List Disk.Wr} (h : Disk.NO B w v ws) : Disk.rowO v = none ∨ ∃ b c, Disk.rowO v = some b ∧ B ≤ b ∧ w.heap[b]? = some (.cells c 48 (0, 0)) := by
  rcases h.two with ⟨ao, rfl, _⟩ | ⟨ho, e⟩
  · left
    cases ao <;> simp [Disk.rowO]
  · rw [e]
    obtain ⟨_, ⟨rfl, _⟩ | ⟨g, cp, cur, rfl, hB, hg, _⟩⟩ := ho
    · left
      rfl
    · right
      exact ⟨g, cur, rfl, hB, hg⟩
/-- A write is appended, and the list goes into the box. -/
theorem Dd.app {w W W' : World} {N D : Nat} {cv : Value} {cs : List UInt8} {u1 u2 x2 : Value} {ss : List ByteArray} {ws ws' : List Disk.Wr} (h : Dd w N cv cs D W u1 u2 ss ws) (hbr : BR w cv cs) (hN : N < w.heap.size) (k : W.grownBy W' (Disk.rowO u2)) (no : Disk.NO w.heap.size W' x2 ws') (l2 : ws'.length ≤ 300) :
    Bx W' D u1 u2 ∧ Dd w N cv cs D (W'.setCell ⟨D, 1, none⟩ x2) u1 x2 ss ws' := by
  have hlo := h.lo
  have hns := h.ns.one h.no k
  rcases no_row h.no with e | ⟨b, c, e, hB, hb⟩
  · rw [e] at k
    have kN : W.grownBy W' (some N) := ⟨k.os, k.tape, k.output, k.size, fun j hj _ => k.block j hj (by simp)⟩
    have d := h.dw.grown kN h.dw k (by simp) (by have := h.gr.size; omega)
    have bx := h.bx.grown k (by simp)
    exact ⟨bx, late_of d (gtrans h.gr kN) bx h.lo (h.rs.grown k (by simp)) hns h.l1 h.cp h.sz hbr hN no l2⟩
  · rw [e] at k
    obtain ⟨g, d⟩ := dw_off hbr hN hB h.gr h.dw k
    have ne : ∀ {x : Nat} {a1 a2 : Value}, Bx W x a1 a2 → some x ≠ some b := by
      intro x a1 a2 hx e
      have e2 : x = b := Option.some.inj e
      subst e2
      rw [show W.heap[x]? = _ from hx] at hb
      simp at hb
    have bx := h.bx.grown k (ne h.bx)
    exact ⟨bx, late_of d g bx h.lo (h.rs.grown k (ne h.rs)) hns h.l1 h.cp h.sz hbr hN no l2⟩

def lateOps : Array Oper := #[{ dst := some 64, op := Op.fieldAddr 27 (Operand.tmp 3) 1, type := 0, pos := "l01_draw.go:137", after := #[], guard := none },
  { dst := some 65, op := Op.load 25 (Operand.tmp 64), type := 25, pos := "l01_draw.go:137", after := #[{ on := 0, ground := Ground.data }], guard := none },
  { dst := some 66, op := Op.build 48 #[(0, Operand.const (Value.int IntKind.i64 (-1)))], type := 48, pos := "l01_draw.go:137", after := #[], guard := none },
  { dst := some 67, op := Op.build 48 #[(0, Operand.const (Value.int IntKind.i64 64))], type := 48, pos := "l01_draw.go:137", after := #[], guard := none },
  { dst := some 68, op := Op.makeSlice 22 (Operand.const (Value.int IntKind.i64 257)) (Operand.const (Value.int IntKind.i64 257)), type := 22, pos := "l01_draw.go:137", after := #[], guard := none },
  { dst := some 69, op := Op.convert 22 9 (Operand.tmp 68), type := 9, pos := "l01_draw.go:137", after := #[{ on := 4, ground := Ground.data }], guard := none },
  { dst := some 70, op := Op.build 48 #[(0, Operand.const (Value.int IntKind.i64 5)), (1, Operand.tmp 69)], type := 48, pos := "l01_draw.go:137", after := #[{ on := 5, ground := Ground.data }], guard := none },
  { dst := some 71, op := Op.buildSlice 25 3 #[(0, Operand.tmp 66), (1, Operand.tmp 67), (2, Operand.tmp 70)], type := 25, pos := "l01_draw.go:137", after := #[{ on := 2, ground := Ground.data }, { on := 3, ground := Ground.data }, { on := 6, ground := Ground.data }], guard := none },
  { dst := some 72, op := Op.move (Operand.tmp 0), type := 49, pos := "l01_draw.go:137", after := #[], guard := none },
  { dst := some 73, op := Op.call { callee := Callee.value (Operand.func 33), args := #[Operand.tmp 72, Operand.const (Value.int IntKind.i64 3)], argTypes := #[49, 2] }, type := 2, pos := "l01_draw.go:137", after := #[{ on := 8, ground := Ground.data }], guard := none },
  { dst := some 74, op := Op.indexAddr 25 (Operand.tmp 71) (Operand.tmp 73), type := 0, pos := "l01_draw.go:137", after := #[{ on := 7, ground := Ground.data }, { on := 9, ground := Ground.data }], guard := none },
  { dst := some 75, op := Op.load 48 (Operand.tmp 74), type := 48, pos := "l01_draw.go:137", after := #[{ on := 10, ground := Ground.data }], guard := none },
  { dst := some 76, op := Op.buildSlice 25 1 #[(0, Operand.tmp 75)], type := 25, pos := "l01_draw.go:137", after := #[{ on := 11, ground := Ground.data }], guard := none },
  { dst := some 77, op := Op.call { callee := Callee.builtin Builtin.append, args := #[Operand.tmp 65, Operand.tmp 76], argTypes := #[25, 25] }, type := 25, pos := "l01_draw.go:137", after := #[{ on := 1, ground := Ground.data }, { on := 12, ground := Ground.data }, { on := 9, ground := Ground.chain }], guard := none },
  { dst := some 78, op := Op.fieldAddr 27 (Operand.tmp 3) 1, type := 0, pos := "l01_draw.go:137", after := #[{ on := 0, ground := Ground.phase }, { on := 1, ground := Ground.phase }, { on := 2, ground := Ground.phase }, { on := 3, ground := Ground.phase }, { on := 4, ground := Ground.phase }, { on := 5, ground := Ground.phase }, { on := 6, ground := Ground.phase }, { on := 7, ground := Ground.phase }, { on := 8, ground := Ground.phase }, { on := 9, ground := Ground.phase }, { on := 10, ground := Ground.phase }, { on := 11, ground := Ground.phase }, { on := 12, ground := Ground.phase }, { on := 13, ground := Ground.phase }], guard := none },
  { dst := none, op := Op.store 25 (Operand.tmp 78) (Operand.tmp 77), type := 0, pos := "l01_draw.go:137", after := #[{ on := 14, ground := Ground.data }, { on := 13, ground := Ground.data }, { on := 13, ground := Ground.chain }, { on := 0, ground := Ground.phase }, { on := 1, ground := Ground.phase }, { on := 2, ground := Ground.phase }, { on := 3, ground := Ground.phase }, { on := 4, ground := Ground.phase }, { on := 5, ground := Ground.phase }, { on := 6, ground := Ground.phase }, { on := 7, ground := Ground.phase }, { on := 8, ground := Ground.phase }, { on := 9, ground := Ground.phase }, { on := 10, ground := Ground.phase }, { on := 11, ground := Ground.phase }, { on := 12, ground := Ground.phase }, { on := 13, ground := Ground.phase }], guard := none }]

theorem lo_0 : lateOps[0]? = some { dst := some 64, op := Op.fieldAddr 27 (Operand.tmp 3) 1, type := 0, pos := "l01_draw.go:137", after := #[], guard := none } := rfl
theorem lo_1 : lateOps[1]? = some { dst := some 65, op := Op.load 25 (Operand.tmp 64), type := 25, pos := "l01_draw.go:137", after := #[{ on := 0, ground := Ground.data }], guard := none } := rfl
theorem lo_2 : lateOps[2]? = some { dst := some 66, op := Op.build 48 #[(0, Operand.const (Value.int IntKind.i64 (-1)))], type := 48, pos := "l01_draw.go:137", after := #[], guard := none } := rfl
theorem lo_3 : lateOps[3]? = some { dst := some 67, op := Op.build 48 #[(0, Operand.const (Value.int IntKind.i64 64))], type := 48, pos := "l01_draw.go:137", after := #[], guard := none } := rfl
theorem lo_4 : lateOps[4]? = some { dst := some 68, op := Op.makeSlice 22 (Operand.const (Value.int IntKind.i64 257)) (Operand.const (Value.int IntKind.i64 257)), type := 22, pos := "l01_draw.go:137", after := #[], guard := none } := rfl
theorem lo_5 : lateOps[5]? = some { dst := some 69, op := Op.convert 22 9 (Operand.tmp 68), type := 9, pos := "l01_draw.go:137", after := #[{ on := 4, ground := Ground.data }], guard := none } := rfl
theorem lo_6 : lateOps[6]? = some { dst := some 70, op := Op.build 48 #[(0, Operand.const (Value.int IntKind.i64 5)), (1, Operand.tmp 69)], type := 48, pos := "l01_draw.go:137", after := #[{ on := 5, ground := Ground.data }], guard := none } := rfl
theorem lo_7 : lateOps[7]? = some { dst := some 71, op := Op.buildSlice 25 3 #[(0, Operand.tmp 66), (1, Operand.tmp 67), (2, Operand.tmp 70)], type := 25, pos := "l01_draw.go:137", after := #[{ on := 2, ground := Ground.data }, { on := 3, ground := Ground.data }, { on := 6, ground := Ground.data }], guard := none } := rfl
theorem lo_8 : lateOps[8]? = some { dst := some 72, op := Op.move (Operand.tmp 0), type := 49, pos := "l01_draw.go:137", after := #[], guard := none } := rfl
theorem lo_9 : lateOps[9]? = some { dst := some 73, op := Op.call { callee := Callee.value (Operand.func 33), args := #[Operand.tmp 72, Operand.const (Value.int IntKind.i64 3)], argTypes := #[49, 2] }, type := 2, pos := "l01_draw.go:137", after := #[{ on := 8, ground := Ground.data }], guard := none } := rfl
theorem lo_10 : lateOps[10]? = some { dst := some 74, op := Op.indexAddr 25 (Operand.tmp 71) (Operand.tmp 73), type := 0, pos := "l01_draw.go:137", after := #[{ on := 7, ground := Ground.data }, { on := 9, ground := Ground.data }], guard := none } := rfl
theorem lo_11 : lateOps[11]? = some { dst := some 75, op := Op.load 48 (Operand.tmp 74), type := 48, pos := "l01_draw.go:137", after := #[{ on := 10, ground := Ground.data }], guard := none } := rfl
theorem lo_12 : lateOps[12]? = some { dst := some 76, op := Op.buildSlice 25 1 #[(0, Operand.tmp 75)], type := 25, pos := "l01_draw.go:137", after := #[{ on := 11, ground := Ground.data }], guard := none } := rfl
theorem lo_13 : lateOps[13]? = some { dst := some 77, op := Op.call { callee := Callee.builtin Builtin.append, args := #[Operand.tmp 65, Operand.tmp 76], argTypes := #[25, 25] }, type := 25, pos := "l01_draw.go:137", after := #[{ on := 1, ground := Ground.data }, { on := 12, ground := Ground.data }, { on := 9, ground := Ground.chain }], guard := none } := rfl
theorem lo_14 : lateOps[14]? = some { dst := some 78, op := Op.fieldAddr 27 (Operand.tmp 3) 1, type := 0, pos := "l01_draw.go:137", after := #[{ on := 0, ground := Ground.phase }, { on := 1, ground := Ground.phase }, { on := 2, ground := Ground.phase }, { on := 3, ground := Ground.phase }, { on := 4, ground := Ground.phase }, { on := 5, ground := Ground.phase }, { on := 6, ground := Ground.phase }, { on := 7, ground := Ground.phase }, { on := 8, ground := Ground.phase }, { on := 9, ground := Ground.phase }, { on := 10, ground := Ground.phase }, { on := 11, ground := Ground.phase }, { on := 12, ground := Ground.phase }, { on := 13, ground := Ground.phase }], guard := none } := rfl
theorem lo_15 : lateOps[15]? = some { dst := none, op := Op.store 25 (Operand.tmp 78) (Operand.tmp 77), type := 0, pos := "l01_draw.go:137", after := #[{ on := 14, ground := Ground.data }, { on := 13, ground := Ground.data }, { on := 13, ground := Ground.chain }, { on := 0, ground := Ground.phase }, { on := 1, ground := Ground.phase }, { on := 2, ground := Ground.phase }, { on := 3, ground := Ground.phase }, { on := 4, ground := Ground.phase }, { on := 5, ground := Ground.phase }, { on := 6, ground := Ground.phase }, { on := 7, ground := Ground.phase }, { on := 8, ground := Ground.phase }, { on := 9, ground := Ground.phase }, { on := 10, ground := Ground.phase }, { on := 11, ground := Ground.phase }, { on := 12, ground := Ground.phase }, { on := 13, ground := Ground.phase }], guard := none } := rfl

set_option maxRecDepth 100000 in
set_option maxHeartbeats 1600000 in
theorem late_R {w : World} {N D : Nat} {cv : Value} {cs : List UInt8} {u1 : Value} {q2 : Option Addr} {n2 r2 : Nat} {ss : List ByteArray} {ws : List Disk.Wr} {Df : List Deferred} {R : Act → World → Prop} {t1 t2 t4 t5 t6 t7 t8 t9 t10 t11 t12 t13 t14 t15 t16 t17 t18 t19 t20 t21 t22 t23 t24 t25 t26 t27 t28 t29 t30 t31 t32 t33 t34 t35 t36 t37 t38 t39 t40 t41 t42 t43 t44 t45 t46 t47 t48 t49 t50 t51 t52 t53 t54 t55 t56 t57 t58 t59 t60 t61 t62 t63 t74 t75 t76 t77 t78 t79 t80 t81 t82 t83 t84 t85 t86 : Value} (hbr : BR w cv cs) (hN : N < w.heap.size) (hw : ws.length ≤ 201)
    (K : ∀ (v64 v65 v66 v67 v68 v69 v70 v71 v72 v73 v74 v75 v76 v77 v78 : Value) (W' : World) (ao : Option Addr) (n cap : Nat) (ws' : List Disk.Wr), Dd w N cv cs D W' u1 (.slice ao n cap) ss ws' → n = ws'.length → R ⟨(List.toArray (.pointer (some ⟨N, 0, none⟩) :: t1 :: t2 :: .pointer (some ⟨D, 0, none⟩) :: t4 :: t5 :: t6 :: t7 :: t8 :: t9 :: t10 :: t11 :: t12 :: t13 :: t14 :: t15 :: t16 :: t17 :: t18 :: t19 :: t20 :: t21 :: t22 :: t23 :: t24 :: t25 :: t26 :: t27 :: t28 :: t29 :: t30 :: t31 :: t32 :: t33 :: t34 :: t35 :: t36 :: t37 :: t38 :: t39 :: t40 :: t41 :: t42 :: t43 :: t44 :: t45 :: t46 :: t47 :: t48 :: t49 :: t50 :: t51 :: t52 :: t53 :: t54 :: t55 :: t56 :: t57 :: t58 :: t59 :: t60 :: t61 :: t62 :: t63 :: v64 :: v65 :: v66 :: v67 :: v68 :: v69 :: v70 :: v71 :: v72 :: v73 :: v74 :: v75 :: v76 :: v77 :: v78 :: t79 :: t80 :: t81 :: t82 :: t83 :: t84 :: t85 :: t86 :: [])), Df⟩ W') (W : World) (b4 X zn : Nat) (hz : zn < 3) (hD : Dd w N cv cs D W u1 (.slice q2 n2 r2) ss ws) (hX : Bk W X #[.int .i64 (-1), .string ⟨#[]⟩, .int .i64 64, .string ⟨#[]⟩, .int .i64 5, .string z257] 48) (L : Array Bool) (hL : L = #[true, true, true, true, true, true, true, true, true, true, false, false, false, false, false, false]) :
    Disk.wpAnyZ Tryz.prog .any lateOps (Disk.Ends R) 15 (fun W' => W'.cell? ⟨D, 1, none⟩ = some (.slice q2 n2 r2)) 6 L ⟨(List.toArray (.pointer (some ⟨N, 0, none⟩) :: t1 :: t2 :: .pointer (some ⟨D, 0, none⟩) :: t4 :: t5 :: t6 :: t7 :: t8 :: t9 :: t10 :: t11 :: t12 :: t13 :: t14 :: t15 :: t16 :: t17 :: t18 :: t19 :: t20 :: t21 :: t22 :: t23 :: t24 :: t25 :: t26 :: t27 :: t28 :: t29 :: t30 :: t31 :: t32 :: t33 :: t34 :: t35 :: t36 :: t37 :: t38 :: t39 :: t40 :: t41 :: t42 :: t43 :: t44 :: t45 :: t46 :: t47 :: t48 :: t49 :: t50 :: t51 :: t52 :: t53 :: t54 :: t55 :: t56 :: t57 :: t58 :: t59 :: t60 :: t61 :: t62 :: t63 :: .pointer (some ⟨D, 1, none⟩) :: .slice q2 n2 r2 :: .agg #[.int .i64 (-1), .string ⟨#[]⟩] :: .agg #[.int .i64 (64), .string ⟨#[]⟩] :: .slice (some ⟨b4, 0, none⟩) 257 257 :: .string z257 :: .agg #[.int .i64 (5), .string z257] :: .slice (some ⟨X, 0, none⟩) 3 3 :: .pointer (some ⟨N, 0, none⟩) :: .int .i64 ((zn : Nat) : Int) :: t74 :: t75 :: t76 :: t77 :: t78 :: t79 :: t80 :: t81 :: t82 :: t83 :: t84 :: t85 :: t86 :: [])), Df⟩ W := by
  subst hL
  have hs := hD.bx.c1
  have y0 : W.cell? ⟨X, zn * 2, none⟩ = some (.int .i64 ([-1, 64, 5].getD zn 0)) ∧ W.cell? ⟨X, zn * 2 + 1, none⟩ = some (.string ([⟨#[]⟩, ⟨#[]⟩, z257].getD zn z257)) := by
    rcases (by omega : zn = 0 ∨ zn = 1 ∨ zn = 2) with rfl | rfl | rfl <;> exact ⟨hX.cell rfl, hX.cell rfl⟩
  have hzi : decide ((zn : Int) < 3) = true := by simp; omega
  generalize ([-1, 64, 5].getD zn 0 : Int) = yn at y0
  generalize ([⟨#[]⟩, ⟨#[]⟩, z257].getD zn z257 : ByteArray) = yt at y0
  obtain ⟨y0, y1⟩ := y0
  refine Disk.z_run 10 74 lo_10 rfl (by kernel_rfl) (by rfl) (w' := W) (v := .pointer (some ⟨X, zn * 2, none⟩)) (by
    go_simp; first | done | with_reducible rfl | (intro hh; omega)) (.inr hs) ?_
  simp only [List.setIfInBounds_toArray, List.set_cons_zero, List.set_cons_succ]
  refine Disk.z_run 11 75 lo_11 rfl (by kernel_rfl) (by rfl) (w' := W) (v := .agg #[.int .i64 yn, .string yt]) (by
    go_simp; first | done | with_reducible rfl | (intro hh; omega)) (.inr hs) ?_
  simp only [List.setIfInBounds_toArray, List.set_cons_zero, List.set_cons_succ]
  have hA := hD.al hN (.cells #[.int .i64 yn, .string yt] 48)
  have n1 := Bk.new W #[.int .i64 yn, .string yt] 48
  have sA := hA.bx.c1
  refine Disk.z_run 12 76 lo_12 rfl (by kernel_rfl) (by rfl) (w' := W.alloc (.cells #[.int .i64 yn, .string yt] 48)) (v := .slice (some ⟨W.heap.size, 0, none⟩) 1 1) (by
    go_simp; first | done | with_reducible rfl | (intro hh; omega)) (.inr sA) ?_
  simp only [List.setIfInBounds_toArray, List.set_cons_zero, List.set_cons_succ]
  obtain ⟨ao, n, cap, w6, hrun, hno, hg6⟩ := Disk.run_one (W.alloc (.cells #[.int .i64 yn, .string yt] 48)) w.heap.size W.heap.size (.slice q2 n2 r2) ws (yn, yt) 25 hA.no (n1.cell rfl) (n1.cell rfl) (by omega) (by have := hA.gr.size; exact this)
  obtain ⟨bx6, DA⟩ := hA.app hbr hN hg6 hno (by rw [List.length_append]; show ws.length + 1 ≤ 300; omega)
  refine Disk.z_run 13 77 lo_13 rfl (by kernel_rfl) (by rfl) (exec_appW _ _ rfl _ _ rfl rfl hrun) (.inr bx6.c1) ?_
  simp only [List.setIfInBounds_toArray, List.set_cons_zero, List.set_cons_succ]
  have c6 := bx6.c1
  have f6 := bx6.f (o := 1)
  refine Disk.z_run 14 78 lo_14 rfl (by kernel_rfl) (by rfl) (w' := w6) (v := .pointer (some ⟨D, 1, none⟩)) (by
    go_simp; first | done | with_reducible rfl | (intro hh; omega)) (.inr c6) ?_
  simp only [List.setIfInBounds_toArray, List.set_cons_zero, List.set_cons_succ]
  refine Disk.z_skip 15 lo_15 rfl (by kernel_rfl) (by rfl) (by
    go_simp; first | done | with_reducible rfl) (.inl rfl) ?_
  refine Disk.z_done (by kernel_rfl) ?_ _
  have hlen : n = (ws ++ [(yn, yt)]).length := by
    have hh := DA.nw.1
    obtain ⟨ao', cap', e, _⟩ := hh
    cases e
    rfl
  exact K _ _ _ _ _ _ _ _ _ _ _ _ _ _ _ _ ao n cap _ DA hlen

set_option maxRecDepth 100000 in
set_option maxHeartbeats 1600000 in
theorem late_7 {w : World} {N D : Nat} {cv : Value} {cs : List UInt8} {u1 : Value} {q2 : Option Addr} {n2 r2 : Nat} {ss : List ByteArray} {ws : List Disk.Wr} {Df : List Deferred} {R : Act → World → Prop} {t1 t2 t4 t5 t6 t7 t8 t9 t10 t11 t12 t13 t14 t15 t16 t17 t18 t19 t20 t21 t22 t23 t24 t25 t26 t27 t28 t29 t30 t31 t32 t33 t34 t35 t36 t37 t38 t39 t40 t41 t42 t43 t44 t45 t46 t47 t48 t49 t50 t51 t52 t53 t54 t55 t56 t57 t58 t59 t60 t61 t62 t63 t71 t74 t75 t76 t77 t78 t79 t80 t81 t82 t83 t84 t85 t86 : Value} (hbr : BR w cv cs) (hN : N < w.heap.size) (hw : ws.length ≤ 201)
    (K : ∀ (v64 v65 v66 v67 v68 v69 v70 v71 v72 v73 v74 v75 v76 v77 v78 : Value) (W' : World) (ao : Option Addr) (n cap : Nat) (ws' : List Disk.Wr), Dd w N cv cs D W' u1 (.slice ao n cap) ss ws' → n = ws'.length → R ⟨(List.toArray (.pointer (some ⟨N, 0, none⟩) :: t1 :: t2 :: .pointer (some ⟨D, 0, none⟩) :: t4 :: t5 :: t6 :: t7 :: t8 :: t9 :: t10 :: t11 :: t12 :: t13 :: t14 :: t15 :: t16 :: t17 :: t18 :: t19 :: t20 :: t21 :: t22 :: t23 :: t24 :: t25 :: t26 :: t27 :: t28 :: t29 :: t30 :: t31 :: t32 :: t33 :: t34 :: t35 :: t36 :: t37 :: t38 :: t39 :: t40 :: t41 :: t42 :: t43 :: t44 :: t45 :: t46 :: t47 :: t48 :: t49 :: t50 :: t51 :: t52 :: t53 :: t54 :: t55 :: t56 :: t57 :: t58 :: t59 :: t60 :: t61 :: t62 :: t63 :: v64 :: v65 :: v66 :: v67 :: v68 :: v69 :: v70 :: v71 :: v72 :: v73 :: v74 :: v75 :: v76 :: v77 :: v78 :: t79 :: t80 :: t81 :: t82 :: t83 :: t84 :: t85 :: t86 :: [])), Df⟩ W') (W : World) (b4 zn : Nat) (hz : zn < 3) (hD : Dd w N cv cs D W u1 (.slice q2 n2 r2) ss ws) (L : Array Bool) (hL : L = #[true, true, true, true, true, true, true, false, true, true, false, false, false, false, false, false]) :
    Disk.wpAnyZ Tryz.prog .any lateOps (Disk.Ends R) 15 (fun W' => W'.cell? ⟨D, 1, none⟩ = some (.slice q2 n2 r2)) 7 L ⟨(List.toArray (.pointer (some ⟨N, 0, none⟩) :: t1 :: t2 :: .pointer (some ⟨D, 0, none⟩) :: t4 :: t5 :: t6 :: t7 :: t8 :: t9 :: t10 :: t11 :: t12 :: t13 :: t14 :: t15 :: t16 :: t17 :: t18 :: t19 :: t20 :: t21 :: t22 :: t23 :: t24 :: t25 :: t26 :: t27 :: t28 :: t29 :: t30 :: t31 :: t32 :: t33 :: t34 :: t35 :: t36 :: t37 :: t38 :: t39 :: t40 :: t41 :: t42 :: t43 :: t44 :: t45 :: t46 :: t47 :: t48 :: t49 :: t50 :: t51 :: t52 :: t53 :: t54 :: t55 :: t56 :: t57 :: t58 :: t59 :: t60 :: t61 :: t62 :: t63 :: .pointer (some ⟨D, 1, none⟩) :: .slice q2 n2 r2 :: .agg #[.int .i64 (-1), .string ⟨#[]⟩] :: .agg #[.int .i64 (64), .string ⟨#[]⟩] :: .slice (some ⟨b4, 0, none⟩) 257 257 :: .string z257 :: .agg #[.int .i64 (5), .string z257] :: t71 :: .pointer (some ⟨N, 0, none⟩) :: .int .i64 ((zn : Nat) : Int) :: t74 :: t75 :: t76 :: t77 :: t78 :: t79 :: t80 :: t81 :: t82 :: t83 :: t84 :: t85 :: t86 :: [])), Df⟩ W := by
  subst hL
  have hA := hD.al hN (.cells #[.int .i64 (-1), .string ⟨#[]⟩, .int .i64 64, .string ⟨#[]⟩, .int .i64 5, .string z257] 48)
  have n1 := Bk.new W #[.int .i64 (-1), .string ⟨#[]⟩, .int .i64 64, .string ⟨#[]⟩, .int .i64 5, .string z257] 48
  have sA := hA.bx.c1
  refine Disk.z_run 7 71 lo_7 rfl (by kernel_rfl) (by rfl) (w' := W.alloc (.cells #[.int .i64 (-1), .string ⟨#[]⟩, .int .i64 64, .string ⟨#[]⟩, .int .i64 5, .string z257] 48)) (v := .slice (some ⟨W.heap.size, 0, none⟩) 3 3) (by
    go_simp; first | done | with_reducible rfl | (intro hh; omega)) (.inr sA) ?_
  simp only [List.setIfInBounds_toArray, List.set_cons_zero, List.set_cons_succ]
  exact late_R hbr hN hw K _ b4 _ zn hz hA n1 _ (by kernel_rfl)

set_option maxRecDepth 100000 in
set_option maxHeartbeats 1600000 in
theorem late_5 {w : World} {N D : Nat} {cv : Value} {cs : List UInt8} {u1 : Value} {q2 : Option Addr} {n2 r2 : Nat} {ss : List ByteArray} {ws : List Disk.Wr} {Df : List Deferred} {R : Act → World → Prop} {t1 t2 t4 t5 t6 t7 t8 t9 t10 t11 t12 t13 t14 t15 t16 t17 t18 t19 t20 t21 t22 t23 t24 t25 t26 t27 t28 t29 t30 t31 t32 t33 t34 t35 t36 t37 t38 t39 t40 t41 t42 t43 t44 t45 t46 t47 t48 t49 t50 t51 t52 t53 t54 t55 t56 t57 t58 t59 t60 t61 t62 t63 t69 t70 t71 t74 t75 t76 t77 t78 t79 t80 t81 t82 t83 t84 t85 t86 : Value} (hbr : BR w cv cs) (hN : N < w.heap.size) (hw : ws.length ≤ 201)
    (K : ∀ (v64 v65 v66 v67 v68 v69 v70 v71 v72 v73 v74 v75 v76 v77 v78 : Value) (W' : World) (ao : Option Addr) (n cap : Nat) (ws' : List Disk.Wr), Dd w N cv cs D W' u1 (.slice ao n cap) ss ws' → n = ws'.length → R ⟨(List.toArray (.pointer (some ⟨N, 0, none⟩) :: t1 :: t2 :: .pointer (some ⟨D, 0, none⟩) :: t4 :: t5 :: t6 :: t7 :: t8 :: t9 :: t10 :: t11 :: t12 :: t13 :: t14 :: t15 :: t16 :: t17 :: t18 :: t19 :: t20 :: t21 :: t22 :: t23 :: t24 :: t25 :: t26 :: t27 :: t28 :: t29 :: t30 :: t31 :: t32 :: t33 :: t34 :: t35 :: t36 :: t37 :: t38 :: t39 :: t40 :: t41 :: t42 :: t43 :: t44 :: t45 :: t46 :: t47 :: t48 :: t49 :: t50 :: t51 :: t52 :: t53 :: t54 :: t55 :: t56 :: t57 :: t58 :: t59 :: t60 :: t61 :: t62 :: t63 :: v64 :: v65 :: v66 :: v67 :: v68 :: v69 :: v70 :: v71 :: v72 :: v73 :: v74 :: v75 :: v76 :: v77 :: v78 :: t79 :: t80 :: t81 :: t82 :: t83 :: t84 :: t85 :: t86 :: [])), Df⟩ W') (W : World) (b4 zn : Nat) (hz : zn < 3) (hD : Dd w N cv cs D W u1 (.slice q2 n2 r2) ss ws) (h4 : Bk W b4 (madeCells #[.int .u8 0] 257) 5) (L : Array Bool) (hL : L = #[true, true, true, true, true, false, false, false, true, true, false, false, false, false, false, false]) :
    Disk.wpAnyZ Tryz.prog .any lateOps (Disk.Ends R) 15 (fun W' => W'.cell? ⟨D, 1, none⟩ = some (.slice q2 n2 r2)) 9 L ⟨(List.toArray (.pointer (some ⟨N, 0, none⟩) :: t1 :: t2 :: .pointer (some ⟨D, 0, none⟩) :: t4 :: t5 :: t6 :: t7 :: t8 :: t9 :: t10 :: t11 :: t12 :: t13 :: t14 :: t15 :: t16 :: t17 :: t18 :: t19 :: t20 :: t21 :: t22 :: t23 :: t24 :: t25 :: t26 :: t27 :: t28 :: t29 :: t30 :: t31 :: t32 :: t33 :: t34 :: t35 :: t36 :: t37 :: t38 :: t39 :: t40 :: t41 :: t42 :: t43 :: t44 :: t45 :: t46 :: t47 :: t48 :: t49 :: t50 :: t51 :: t52 :: t53 :: t54 :: t55 :: t56 :: t57 :: t58 :: t59 :: t60 :: t61 :: t62 :: t63 :: .pointer (some ⟨D, 1, none⟩) :: .slice q2 n2 r2 :: .agg #[.int .i64 (-1), .string ⟨#[]⟩] :: .agg #[.int .i64 (64), .string ⟨#[]⟩] :: .slice (some ⟨b4, 0, none⟩) 257 257 :: t69 :: t70 :: t71 :: .pointer (some ⟨N, 0, none⟩) :: .int .i64 ((zn : Nat) : Int) :: t74 :: t75 :: t76 :: t77 :: t78 :: t79 :: t80 :: t81 :: t82 :: t83 :: t84 :: t85 :: t86 :: [])), Df⟩ W := by
  subst hL
  have hs := hD.bx.c1
  have hc := zeros_text h4
  refine Disk.z_run 5 69 lo_5 rfl (by kernel_rfl) (by rfl) (w' := W) (v := .string z257) (by
    go_simp; first | done | with_reducible rfl | (intro hh; omega)) (.inr hs) ?_
  simp only [List.setIfInBounds_toArray, List.set_cons_zero, List.set_cons_succ]
  refine Disk.z_take 6 70 (v := .agg #[.int .i64 (5), .string z257]) lo_6 rfl (by kernel_rfl) (by kernel_rfl) (by kernel_rfl) (by kernel_rfl) (by rfl) hs (fun W' hSw => (by
    go_simp; first | done | with_reducible rfl)) ?_
  simp only [List.setIfInBounds_toArray, List.set_cons_zero, List.set_cons_succ]
  exact late_7 hbr hN hw K _ b4 zn hz hD _ (by kernel_rfl)

set_option maxRecDepth 100000 in
set_option maxHeartbeats 1600000 in
theorem late_0 {w : World} {N D : Nat} {cv : Value} {cs : List UInt8} {u1 : Value} {q2 : Option Addr} {n2 r2 : Nat} {ss : List ByteArray} {ws : List Disk.Wr} {Df : List Deferred} {R : Act → World → Prop} {t1 t2 t4 t5 t6 t7 t8 t9 t10 t11 t12 t13 t14 t15 t16 t17 t18 t19 t20 t21 t22 t23 t24 t25 t26 t27 t28 t29 t30 t31 t32 t33 t34 t35 t36 t37 t38 t39 t40 t41 t42 t43 t44 t45 t46 t47 t48 t49 t50 t51 t52 t53 t54 t55 t56 t57 t58 t59 t60 t61 t62 t63 t68 t69 t70 t71 t73 t74 t75 t76 t77 t78 t79 t80 t81 t82 t83 t84 t85 t86 : Value} (hbr : BR w cv cs) (hN : N < w.heap.size) (hw : ws.length ≤ 201)
    (K : ∀ (v64 v65 v66 v67 v68 v69 v70 v71 v72 v73 v74 v75 v76 v77 v78 : Value) (W' : World) (ao : Option Addr) (n cap : Nat) (ws' : List Disk.Wr), Dd w N cv cs D W' u1 (.slice ao n cap) ss ws' → n = ws'.length → R ⟨(List.toArray (.pointer (some ⟨N, 0, none⟩) :: t1 :: t2 :: .pointer (some ⟨D, 0, none⟩) :: t4 :: t5 :: t6 :: t7 :: t8 :: t9 :: t10 :: t11 :: t12 :: t13 :: t14 :: t15 :: t16 :: t17 :: t18 :: t19 :: t20 :: t21 :: t22 :: t23 :: t24 :: t25 :: t26 :: t27 :: t28 :: t29 :: t30 :: t31 :: t32 :: t33 :: t34 :: t35 :: t36 :: t37 :: t38 :: t39 :: t40 :: t41 :: t42 :: t43 :: t44 :: t45 :: t46 :: t47 :: t48 :: t49 :: t50 :: t51 :: t52 :: t53 :: t54 :: t55 :: t56 :: t57 :: t58 :: t59 :: t60 :: t61 :: t62 :: t63 :: v64 :: v65 :: v66 :: v67 :: v68 :: v69 :: v70 :: v71 :: v72 :: v73 :: v74 :: v75 :: v76 :: v77 :: v78 :: t79 :: t80 :: t81 :: t82 :: t83 :: t84 :: t85 :: t86 :: [])), Df⟩ W') (W : World) (hD : Dd w N cv cs D W u1 (.slice q2 n2 r2) ss ws) (L : Array Bool) (hL : L = #[true, true, true, true, false, false, false, false, true, false, false, false, false, false, false, false]) :
    Disk.wpAnyZ Tryz.prog .any lateOps (Disk.Ends R) 15 (fun W' => W'.cell? ⟨D, 1, none⟩ = some (.slice q2 n2 r2)) 11 L ⟨(List.toArray (.pointer (some ⟨N, 0, none⟩) :: t1 :: t2 :: .pointer (some ⟨D, 0, none⟩) :: t4 :: t5 :: t6 :: t7 :: t8 :: t9 :: t10 :: t11 :: t12 :: t13 :: t14 :: t15 :: t16 :: t17 :: t18 :: t19 :: t20 :: t21 :: t22 :: t23 :: t24 :: t25 :: t26 :: t27 :: t28 :: t29 :: t30 :: t31 :: t32 :: t33 :: t34 :: t35 :: t36 :: t37 :: t38 :: t39 :: t40 :: t41 :: t42 :: t43 :: t44 :: t45 :: t46 :: t47 :: t48 :: t49 :: t50 :: t51 :: t52 :: t53 :: t54 :: t55 :: t56 :: t57 :: t58 :: t59 :: t60 :: t61 :: t62 :: t63 :: .pointer (some ⟨D, 1, none⟩) :: .slice q2 n2 r2 :: .agg #[.int .i64 (-1), .string ⟨#[]⟩] :: .agg #[.int .i64 (64), .string ⟨#[]⟩] :: t68 :: t69 :: t70 :: t71 :: .pointer (some ⟨N, 0, none⟩) :: t73 :: t74 :: t75 :: t76 :: t77 :: t78 :: t79 :: t80 :: t81 :: t82 :: t83 :: t84 :: t85 :: t86 :: [])), Df⟩ W := by
  subst hL
  have hs := hD.bx.c1
  have hm : ∀ w, (Instr.makeSlice 22 (.int .i64 257) (.int .i64 257)).run Tryz.prog w = .ok (.slice (some ⟨w.heap.size, 0, none⟩) 257 257) (w.alloc (.cells (madeCells #[.int .u8 0] 257) 5)) := makeB 257 (by omega)
  refine z_or (i := 4) (j := 9) (by kernel_rfl) ?_ ?_
  · refine o_run 4 68 (w' := W.alloc (.cells (madeCells #[.int .u8 0] 257) 5)) (v := .slice (some ⟨W.heap.size, 0, none⟩) 257 257) lo_4 rfl (by rfl) (by
      go_simp; first | done | with_reducible rfl | (intro hh; omega)) (.inr (hD.al hN _).bx.c1) ?_
    simp only [List.setIfInBounds_toArray, List.set_cons_zero, List.set_cons_succ]
    have hA := hD.al hN (.cells (madeCells #[.int .u8 0] 257) 5)
    have n4 := Bk.new W (madeCells #[.int .u8 0] 257) 5
    have sA := hA.bx.c1
    generalize hb4 : W.heap.size = b4 at n4 ⊢
    have hbN : b4 ≠ N := by have := hD.gr.size; omega
    generalize W.alloc (.cells (madeCells #[.int .u8 0] 257) 5) = V at *
    have hc := zeros_text n4
    refine z_or (i := 5) (j := 9) (by kernel_rfl) ?_ ?_
    · refine o_run 5 69 (w' := V) (v := .string z257) lo_5 rfl (by rfl) (by
        go_simp; first | done | with_reducible rfl | (intro hh; omega)) (.inr sA) ?_
      simp only [List.setIfInBounds_toArray, List.set_cons_zero, List.set_cons_succ]
      refine Disk.z_take 6 70 (v := .agg #[.int .i64 (5), .string z257]) lo_6 rfl (by kernel_rfl) (by kernel_rfl) (by kernel_rfl) (by kernel_rfl) (by rfl) sA (fun W' hSw => (by
        go_simp; first | done | with_reducible rfl)) ?_
      simp only [List.setIfInBounds_toArray, List.set_cons_zero, List.set_cons_succ]
      refine z_or (i := 7) (j := 9) (by kernel_rfl) ?_ ?_
      · refine o_run 7 71 (w' := V.alloc (.cells #[.int .i64 (-1), .string ⟨#[]⟩, .int .i64 64, .string ⟨#[]⟩, .int .i64 5, .string z257] 48)) (v := .slice (some ⟨V.heap.size, 0, none⟩) 3 3) lo_7 rfl (by rfl) (by
          go_simp; first | done | with_reducible rfl | (intro hh; omega)) (.inr (hA.al hN _).bx.c1) ?_
        simp only [List.setIfInBounds_toArray, List.set_cons_zero, List.set_cons_succ]
        have hB := hA.al hN (.cells #[.int .i64 (-1), .string ⟨#[]⟩, .int .i64 64, .string ⟨#[]⟩, .int .i64 5, .string z257] 48)
        have n7 := Bk.new V #[.int .i64 (-1), .string ⟨#[]⟩, .int .i64 64, .string ⟨#[]⟩, .int .i64 5, .string z257] 48
        have hsV := hA.gr.size
        generalize hX : V.heap.size = X at n7 ⊢
        have hXN : X ≠ N := by omega
        generalize V.alloc (.cells #[.int .i64 (-1), .string ⟨#[]⟩, .int .i64 64, .string ⟨#[]⟩, .int .i64 5, .string z257] 48) = U at *
        refine Disk.z_call 9 73 (f := 33) (args := #[.pointer (some ⟨N, 0, none⟩), .int .i64 3]) (w0 := U) lo_9 rfl (by kernel_rfl) (by rfl) (by
          go_simp; first | done | with_reducible rfl | (intro hh; omega)) ?_
        refine (belowN hB 3 (by omega) (by omega)).mono ?_
        rintro x w5 ⟨zn, rfl, hz, g9, d9⟩
        have hC := hB.step hN g9 d9
        refine ⟨_, rfl, .inr hC.bx.c1, ?_⟩
        simp only [List.setIfInBounds_toArray, List.set_cons_zero, List.set_cons_succ]
        exact late_R hbr hN hw K _ b4 X zn (by omega) hC (n7.grown g9 (fun e => hXN (Option.some.inj e))) _ (by kernel_rfl)
      · refine o_call 9 73 (f := 33) (args := #[.pointer (some ⟨N, 0, none⟩), .int .i64 3]) (w0 := V) lo_9 rfl (by rfl) (by
          go_simp; first | done | with_reducible rfl | (intro hh; omega)) ?_
        refine (belowN hA 3 (by omega) (by omega)).mono ?_
        rintro x w5 ⟨zn, rfl, hz, g9, d9⟩
        have hC := hA.step hN g9 d9
        refine ⟨_, rfl, .inr hC.bx.c1, ?_⟩
        simp only [List.setIfInBounds_toArray, List.set_cons_zero, List.set_cons_succ]
        exact late_7 hbr hN hw K _ b4 zn (by omega) hC _ (by kernel_rfl)
    · refine o_call 9 73 (f := 33) (args := #[.pointer (some ⟨N, 0, none⟩), .int .i64 3]) (w0 := V) lo_9 rfl (by rfl) (by
        go_simp; first | done | with_reducible rfl | (intro hh; omega)) ?_
      refine (belowN hA 3 (by omega) (by omega)).mono ?_
      rintro x w5 ⟨zn, rfl, hz, g9, d9⟩
      have hC := hA.step hN g9 d9
      refine ⟨_, rfl, .inr hC.bx.c1, ?_⟩
      simp only [List.setIfInBounds_toArray, List.set_cons_zero, List.set_cons_succ]
      exact late_5 hbr hN hw K _ b4 zn (by omega) hC (n4.grown g9 (fun e => hbN (Option.some.inj e))) _ (by kernel_rfl)
  · refine o_call 9 73 (f := 33) (args := #[.pointer (some ⟨N, 0, none⟩), .int .i64 3]) (w0 := W) lo_9 rfl (by rfl) (by
      go_simp; first | done | with_reducible rfl | (intro hh; omega)) ?_
    refine (belowN hD 3 (by omega) (by omega)).mono ?_
    rintro x w5 ⟨zn, rfl, hz, g9, d9⟩
    have hC := hD.step hN g9 d9
    refine ⟨_, rfl, .inr hC.bx.c1, ?_⟩
    simp only [List.setIfInBounds_toArray, List.set_cons_zero, List.set_cons_succ]
    have hA := hC.al hN (.cells (madeCells #[.int .u8 0] 257) 5)
    have n4 := Bk.new w5 (madeCells #[.int .u8 0] 257) 5
    have sA := hA.bx.c1
    refine Disk.z_run 4 68 lo_4 rfl (by kernel_rfl) (by rfl) (w' := w5.alloc (.cells (madeCells #[.int .u8 0] 257) 5)) (v := .slice (some ⟨w5.heap.size, 0, none⟩) 257 257) (by
      go_simp; first | done | with_reducible rfl | (intro hh; omega)) (.inr sA) ?_
    simp only [List.setIfInBounds_toArray, List.set_cons_zero, List.set_cons_succ]
    exact late_5 hbr hN hw K _ _ zn (by omega) hA n4 _ (by kernel_rfl)

set_option maxRecDepth 100000 in
set_option maxHeartbeats 1600000 in
theorem late_region {w : World} {N D : Nat} {cv : Value} {cs : List UInt8} {u1 : Value} {q2 : Option Addr} {n2 r2 : Nat} {ss : List ByteArray} {ws : List Disk.Wr} {Df : List Deferred} {t1 t2 t4 t5 t6 t7 t8 t9 t10 t11 t12 t13 t14 t15 t16 t17 t18 t19 t20 t21 t22 t23 t24 t25 t26 t27 t28 t29 t30 t31 t32 t33 t34 t35 t36 t37 t38 t39 t40 t41 t42 t43 t44 t45 t46 t47 t48 t49 t50 t51 t52 t53 t54 t55 t56 t57 t58 t59 t60 t61 t62 t63 t64 t65 t66 t67 t68 t69 t70 t71 t72 t73 t74 t75 t76 t77 t78 t79 t80 t81 t82 t83 t84 t85 t86 : Value} (hbr : BR w cv cs) (hN : N < w.heap.size) (hw : ws.length ≤ 201) {Q : Exit → Act → World → Prop} {W : World} (hD : Dd w N cv cs D W u1 (.slice q2 n2 r2) ss ws)
    (K : ∀ (v64 v65 v66 v67 v68 v69 v70 v71 v72 v73 v74 v75 v76 v77 v78 : Value) (W' : World) (ao : Option Addr) (n cap : Nat) (ws' : List Disk.Wr), Dd w N cv cs D W' u1 (.slice ao n cap) ss ws' → n = ws'.length → Q .normal ⟨(List.toArray (.pointer (some ⟨N, 0, none⟩) :: t1 :: t2 :: .pointer (some ⟨D, 0, none⟩) :: t4 :: t5 :: t6 :: t7 :: t8 :: t9 :: t10 :: t11 :: t12 :: t13 :: t14 :: t15 :: t16 :: t17 :: t18 :: t19 :: t20 :: t21 :: t22 :: t23 :: t24 :: t25 :: t26 :: t27 :: t28 :: t29 :: t30 :: t31 :: t32 :: t33 :: t34 :: t35 :: t36 :: t37 :: t38 :: t39 :: t40 :: t41 :: t42 :: t43 :: t44 :: t45 :: t46 :: t47 :: t48 :: t49 :: t50 :: t51 :: t52 :: t53 :: t54 :: t55 :: t56 :: t57 :: t58 :: t59 :: t60 :: t61 :: t62 :: t63 :: v64 :: v65 :: v66 :: v67 :: v68 :: v69 :: v70 :: v71 :: v72 :: v73 :: v74 :: v75 :: v76 :: v77 :: v78 :: t79 :: t80 :: t81 :: t82 :: t83 :: t84 :: t85 :: t86 :: [])), Df⟩ W') :
    (Code.region 21 lateOps true).wp Tryz.prog Q ⟨(List.toArray (.pointer (some ⟨N, 0, none⟩) :: t1 :: t2 :: .pointer (some ⟨D, 0, none⟩) :: t4 :: t5 :: t6 :: t7 :: t8 :: t9 :: t10 :: t11 :: t12 :: t13 :: t14 :: t15 :: t16 :: t17 :: t18 :: t19 :: t20 :: t21 :: t22 :: t23 :: t24 :: t25 :: t26 :: t27 :: t28 :: t29 :: t30 :: t31 :: t32 :: t33 :: t34 :: t35 :: t36 :: t37 :: t38 :: t39 :: t40 :: t41 :: t42 :: t43 :: t44 :: t45 :: t46 :: t47 :: t48 :: t49 :: t50 :: t51 :: t52 :: t53 :: t54 :: t55 :: t56 :: t57 :: t58 :: t59 :: t60 :: t61 :: t62 :: t63 :: t64 :: t65 :: t66 :: t67 :: t68 :: t69 :: t70 :: t71 :: t72 :: t73 :: t74 :: t75 :: t76 :: t77 :: t78 :: t79 :: t80 :: t81 :: t82 :: t83 :: t84 :: t85 :: t86 :: [])), Df⟩ W := by
  have hE := hD.step hN (gdrew (World.grownBy.refl _ _)) hD.dw.drew
  have hmx : Tryz.prog.follows .mixedOrders = true := by kernel_rfl
  refine Disk.z_plain 15 (fun W' => W'.cell? ⟨D, 1, none⟩ = some (.slice q2 n2 r2)) hmx hE.bx.c1 (fun hs => ?_)
  generalize W.drew = V at *
  refine Disk.z_take 0 64 (v := .pointer (some ⟨D, 1, none⟩)) lo_0 rfl (by kernel_rfl) (by kernel_rfl) (by kernel_rfl) (by kernel_rfl) (by rfl) hs (fun W' hSw => (by
    go_simp; first | done | with_reducible rfl)) ?_
  simp only [List.setIfInBounds_toArray, List.set_cons_zero, List.set_cons_succ]
  refine Disk.z_take 1 65 (v := .slice q2 n2 r2) lo_1 rfl (by kernel_rfl) (by kernel_rfl) (by kernel_rfl) (by kernel_rfl) (by rfl) hs (fun W' hSw => (by
    go_simp; first | done | with_reducible rfl)) ?_
  simp only [List.setIfInBounds_toArray, List.set_cons_zero, List.set_cons_succ]
  refine Disk.z_take 2 66 (v := .agg #[.int .i64 (-1), .string ⟨#[]⟩]) lo_2 rfl (by kernel_rfl) (by kernel_rfl) (by kernel_rfl) (by kernel_rfl) (by rfl) hs (fun W' hSw => (by
    go_simp; first | done | with_reducible rfl)) ?_
  simp only [List.setIfInBounds_toArray, List.set_cons_zero, List.set_cons_succ]
  refine Disk.z_take 3 67 (v := .agg #[.int .i64 (64), .string ⟨#[]⟩]) lo_3 rfl (by kernel_rfl) (by kernel_rfl) (by kernel_rfl) (by kernel_rfl) (by rfl) hs (fun W' hSw => (by
    go_simp; first | done | with_reducible rfl)) ?_
  simp only [List.setIfInBounds_toArray, List.set_cons_zero, List.set_cons_succ]
  refine Disk.z_take 8 72 (v := .pointer (some ⟨N, 0, none⟩)) lo_8 rfl (by kernel_rfl) (by kernel_rfl) (by kernel_rfl) (by kernel_rfl) (by rfl) hs (fun W' hSw => (by
    go_simp; first | done | with_reducible rfl)) ?_
  simp only [List.setIfInBounds_toArray, List.set_cons_zero, List.set_cons_succ]
  exact late_0 hbr hN hw K _ hE _ (by kernel_rfl)

end Go.Proofs.YtjclpbaiiklhcaaGreatDoor
