
import Derived.Test.YtboiknllmnfipaaDoorZLGw
import Derived.Test.YtboiknllmnfipaaDoorZLDraw
import Derived.Test.YtboiknllmnfipaaDoorZU15
import Derived.Test.YtboiknllmnfipaaDoorZU4
import Derived.Test.YtboiknllmnfipaaDoorZU18
import Derived.Test.YtboiknllmnfipaaDoorZU0
import Derived.Test.YtboiknllmnfipaaDoorZU17
import Derived.Test.YtboiknllmnfipaaDoorZU12
/- The draw l6Draw of the model answers a graph. -/
namespace Go.Proofs.YtboiknllmnfipaaDoor
open Go.RowKit

theorem Dw.graph {N : Nat} {cv : Value} {cs : List UInt8} {w : World} (d0 : Dw N cv cs w) (hN : N < w.heap.size) : Calls Tryd.prog 10 #[.pointer (some ⟨N, 0, none⟩)] w fun x w' => DrawnG w N cv cs x w' :=
  graph_of d0 hN (fun _ d h => d.heap h)

end Go.Proofs.YtboiknllmnfipaaDoor

/- A row of nodes copied by append. -/
namespace Go.Proofs.YtboiknllmnfipaaDoor
open Go.RowKit

/-- The row of a list of nodes, cell by cell, where the fields are read in another world. -/
def NRow (w : World) (g : Nat) (ns : List Nd) (fv : Nat → Value) : Prop := ∃ M f, w.rowIs g 37 M f ∧ ns.length * 3 ≤ M ∧ ∀ i, i < ns.length → f (i * 3) = .int .i64 (ns.getD i nd0).cls ∧ f (i * 3 + 1) = .int .i64 (ns.getD i nd0).hash ∧ f (i * 3 + 2) = fv i
theorem NR.fvs {w : World} {ao : Option Addr} {n cap : Nat} {ns : List Nd} (h : NR w (.slice ao n cap) ns) (h0 : 0 < ns.length) : ∃ (b o : Nat) (fv : Nat → Value), ao = some ⟨b, o, none⟩ ∧ n = ns.length ∧ ∀ i, i < ns.length → w.cell? ⟨b, o + i * 3, none⟩ = some (.int .i64 (ns.getD i nd0).cls) ∧ w.cell? ⟨b, o + i * 3 + 1, none⟩ = some (.int .i64 (ns.getD i nd0).hash) ∧ w.cell? ⟨b, o + i * 3 + 2, none⟩ = some (fv i) ∧ IR w (fv i) (ns.getD i nd0).fl := by
  obtain ⟨a, c, e, _, h⟩ := h
  simp only [Value.slice.injEq] at e
  obtain ⟨rfl, rfl, rfl⟩ := e
  obtain ⟨b, o, _, _, _, rfl, _⟩ := h 0 h0
  refine ⟨b, o, fun i => (w.cell? ⟨b, o + i * 3 + 2, none⟩).getD undef, rfl, rfl, fun i hi => ?_⟩
  obtain ⟨b', o', fa, fn, fc, e, c0, c1, c2, ir⟩ := h i hi
  simp only [Option.some.injEq, Addr.mk.injEq, and_true] at e
  obtain ⟨rfl, rfl⟩ := e
  refine ⟨c0, c1, ?_, ?_⟩
  · show _ = some ((w.cell? ⟨b, o + i * 3 + 2, none⟩).getD undef)
    rw [c2]
    rfl
  · show IR w ((w.cell? ⟨b, o + i * 3 + 2, none⟩).getD undef) _
    rw [c2]
    exact ir
theorem run_copy_nodes (w : World) (ty : TypeId) (b0 : Nat) (h0 : w.heap[b0]? = some (.cells #[] 37)) (b o c : Nat) (ns : List Nd) (fv : Nat → Value) (hp : 0 < ns.length) (hl : ns.length ≤ 10000)
    (hc : ∀ i, i < ns.length → w.cell? ⟨b, o + i * 3, none⟩ = some (.int .i64 (ns.getD i nd0).cls) ∧ w.cell? ⟨b, o + i * 3 + 1, none⟩ = some (.int .i64 (ns.getD i nd0).hash) ∧ w.cell? ⟨b, o + i * 3 + 2, none⟩ = some (fv i) ∧ IR w (fv i) (ns.getD i nd0).fl) :
    ∃ g d w', (Builtin.append_ #[25, 25] ty #[.slice (some ⟨b0, 0, none⟩) 0 0, .slice (some ⟨b, o, none⟩) ns.length c]).run Tryd.prog w = .ok (.slice (some ⟨g, 0, none⟩) ns.length d) w' ∧ NRow w' g ns fv ∧ w.grownBy w' (some b0) ∧ (g = b0 ∨ g = w.heap.size) ∧ ns.length ≤ d := by
  obtain ⟨i, hi, hzz⟩ := Option.map_eq_some_iff.1 Tryd.infoN
  simp only [Prod.mk.injEq] at hzz
  obtain ⟨hz, hsz, hby⟩ := hzz
  have own : w.ownsRow 0 37 3 (.slice (some ⟨b0, 0, none⟩) 0 0) 0 [] := ⟨rfl, .inr ⟨b0, 0, #[], rfl, Nat.zero_le _, h0, Nat.le_refl _, Nat.zero_le _, rfl, rfl⟩⟩
  have at_ : ∀ j, j < ns.length * 3 → ∃ x, w.cell? ⟨b, o + j, none⟩ = some x ∧ x.oneCell' = true := fun j hj => by
    have hq := hc (j / 3) (by omega)
    obtain ⟨fa, fc, e⟩ := hq.2.2.2.slice
    rcases (show j = j / 3 * 3 ∨ j = j / 3 * 3 + 1 ∨ j = j / 3 * 3 + 2 from by omega) with q | q | q
    · exact ⟨_, by rw [q]; exact hq.1, rfl⟩
    · exact ⟨_, by rw [q, ← Nat.add_assoc]; exact hq.2.1, rfl⟩
    · exact ⟨fv (j / 3), by have z := hq.2.2.1; rwa [Nat.add_assoc, ← q] at z, by rw [e]; rfl⟩
  have gt : ∀ j, j < ns.length * 3 → ((List.range (ns.length * 3)).map fun j => (w.cell? ⟨b, o + j, none⟩).getD undef)[j]? = w.cell? ⟨b, o + j, none⟩ := fun j hj => by
    obtain ⟨x, hx, _⟩ := at_ j hj
    rw [List.getElem?_map, List.getElem?_range hj, hx]
    simp [hx]
  obtain ⟨v', w', run, ow, gr, _, lo⟩ := run_append_own_at (P := Tryd.prog) w 0 25 ty 37 i _ 3 40 Tryd.underlying25 hi hz hsz hby rfl (by omega) _ 0 [] own ⟨b, o, none⟩ ns.length c ((List.range (ns.length * 3)).map fun j => (w.cell? ⟨b, o + j, none⟩).getD undef) (by simp) (fun j u hj => by
    have hlt : j < ns.length * 3 := by
      have := (List.getElem?_eq_some_iff.1 hj).1
      simpa using this
    rw [gt j hlt] at hj
    rw [Addr.add_lit]
    exact hj) (fun u hu => by
    obtain ⟨j, hj, rfl⟩ := List.mem_map.1 hu
    obtain ⟨x, hx, h1⟩ := at_ j (List.mem_range.1 hj)
    rw [hx]
    exact h1) (by unfold maxLen; omega) (by omega) (Nat.zero_le _)
  rw [Nat.zero_add, List.nil_append] at ow
  obtain ⟨hl2, ow⟩ := ow
  rcases ow with ⟨_, e⟩ | ⟨g, cap, cur, rfl, hB, hh, h1, h2, h3, h4⟩
  · omega
  · have get : ∀ j, j < ns.length * 3 → cur[j]?.getD undef = (w.cell? ⟨b, o + j, none⟩).getD undef := fun j hj => by
      rw [← Array.getElem?_toList, ← List.getElem?_take_of_lt hj, h4, gt j hj]
    refine ⟨g, cap, w', run, ⟨cur.size, fun i => cur[i]?.getD undef, ⟨cur, hh, rfl, fun i hi => by simp [hi]⟩, by omega, fun i hi => ?_⟩, gr, ?_, h1⟩
    · obtain ⟨t0, t1, t2, _⟩ := hc i hi
      refine ⟨?_, ?_, ?_⟩
      · show cur[i * 3]?.getD undef = _
        rw [get _ (by omega), t0]; rfl
      · show cur[i * 3 + 1]?.getD undef = _
        rw [get _ (by omega), ← Nat.add_assoc, t1]; rfl
      · show cur[i * 3 + 2]?.getD undef = _
        rw [get _ (by omega), ← Nat.add_assoc, t2]; rfl
    · simpa [Value.ownBlock] using lo
theorem run_nodes_zero (ty : TypeId) (g cap sc : Nat) (sp : Option Addr) (w : World) :
    (Builtin.append_ #[25, 25] ty #[.slice (some ⟨g, 0, none⟩) 0 cap, .slice sp 0 sc]).run Tryd.prog w = .ok (.slice (some ⟨g, 0, none⟩) 0 cap) w := by
  obtain ⟨i, hi, hzz⟩ := Option.map_eq_some_iff.1 Tryd.infoN
  have hu : Tryd.prog.underlying 25 = some (.slice 37) := Tryd.underlying25
  have hl : ∀ (x : Addr), (loadCells x 0).run Tryd.prog w = .ok #[] w := fun x => by simpa using run_loadCells_list (P := Tryd.prog) w x [] (by simp)
  cases sp <;> simp [Builtin.append_, run_underlying hu, Builtin.lenOf, Builtin.firstCells, sizeOf, typeInfo, hi, hl, storeCells]
/-- A copy of a list of nodes that is read: a row of its own, the fields the same values. -/
theorem copy_nodes (w : World) (ty : TypeId) (b0 : Nat) (h0 : w.heap[b0]? = some (.cells #[] 37)) (ao : Option Addr) (c : Nat) (ns : List Nd) (hv : NR w (.slice ao ns.length c) ns) (hl : ns.length ≤ 10000) :
    ∃ g d w' fv, (Builtin.append_ #[25, 25] ty #[.slice (some ⟨b0, 0, none⟩) 0 0, .slice ao ns.length c]).run Tryd.prog w = .ok (.slice (some ⟨g, 0, none⟩) ns.length d) w' ∧ NRow w' g ns fv ∧ w.grownBy w' (some b0) ∧ (g = b0 ∨ g = w.heap.size) ∧ ns.length ≤ d ∧ ∀ i, i < ns.length → (∃ b o, ao = some ⟨b, o, none⟩ ∧ w.cell? ⟨b, o + i * 3 + 2, none⟩ = some (fv i)) ∧ IR w (fv i) (ns.getD i nd0).fl := by
  by_cases hp : 0 < ns.length
  · obtain ⟨b, o, fv, rfl, _, hc⟩ := hv.fvs hp
    obtain ⟨g, d, w', run, nr, gr, lo, hd⟩ := run_copy_nodes w ty b0 h0 b o c ns fv hp hl hc
    exact ⟨g, d, w', fv, run, nr, gr, lo, hd, fun i hi => ⟨⟨b, o, rfl, (hc i hi).2.2.1⟩, (hc i hi).2.2.2⟩⟩
  · obtain rfl : ns = [] := List.eq_nil_of_length_eq_zero (by omega)
    exact ⟨b0, 0, w, fun _ => undef, run_nodes_zero ty b0 0 c ao w, ⟨0, fun _ => undef, ⟨#[], h0, rfl, fun i hi => by simp at hi⟩, Nat.le_refl _, fun i hi => by simp at hi⟩, ⟨rfl, rfl, rfl, Nat.le_refl _, fun _ _ _ => rfl⟩, .inl rfl, Nat.le_refl _, fun i hi => by simp at hi⟩

end Go.Proofs.YtboiknllmnfipaaDoor

/- Two graphs drawn: the state behind the first. -/
namespace Go.Proofs.YtboiknllmnfipaaDoor
open Go.RowKit

structure SG (w w1 : World) (N : Nat) (cv : Value) (cs : List UInt8) (A : Nat) (W : World) (rv nv : Value) (g : Gr) : Prop where
  dw : Dw N cv cs W
  d1 : Dw N cv cs w1
  gr : w1.grownBy W (some N)
  bw : Below w.heap.size w w1
  hr : w.heap.size + 1 < N
  hN : N < w1.heap.size
  r1 : ∃ f, W.rowIs w.heap.size 27 3 f
  r2 : ∃ f, W.rowIs (w.heap.size + 1) 27 3 f
  hA : w1.heap.size ≤ A
  box : W.rowIs A 27 3 (grF rv nv g.hash)
  ga : GAt w1.heap.size W (.agg #[rv, nv, .int .i64 g.hash]) g
  sm : Gsm g
theorem SG.step {w w1 : World} {N : Nat} {cv : Value} {cs : List UInt8} {A : Nat} {W W' : World} {rv nv : Value} {g : Gr} (k : SG w w1 N cv cs A W rv nv g) (s : Sx W N cv cs W') : SG w w1 N cv cs A W' rv nv g := by
  have hr := k.hr
  have hN := k.hN
  have hA := k.hA
  obtain ⟨f1, R1⟩ := k.r1
  obtain ⟨f2, R2⟩ := k.r2
  exact ⟨s.2, k.d1, gtrans k.gr s.1, k.bw, hr, hN, ⟨f1, R1.of_block (s.1.block _ R1.lt (fun e => by have := Option.some.inj e; omega))⟩, ⟨f2, R2.of_block (s.1.block _ R2.lt (fun e => by have := Option.some.inj e; omega))⟩, hA, k.box.of_block (s.1.block _ k.box.lt (fun e => by have := Option.some.inj e; omega)), k.ga.off s.1 hN, k.sm⟩
theorem SG.later {w w1 : World} {N : Nat} {cv : Value} {cs : List UInt8} {A : Nat} {W W' : World} {rv nv : Value} {g : Gr} (k : SG w w1 N cv cs A W rv nv g) (hb : Below W.heap.size W W') : SG w w1 N cv cs A W' rv nv g := by
  have hN := k.hN
  have hs := k.gr.size
  obtain ⟨f1, R1⟩ := k.r1
  obtain ⟨f2, R2⟩ := k.r2
  exact ⟨k.dw.more hb (by omega), k.d1, gtrans k.gr ⟨hb.os, hb.tape, hb.output, hb.size, fun b h1 _ => hb.block b h1⟩, k.bw, k.hr, hN, ⟨f1, R1.of_block (hb.block _ R1.lt)⟩, ⟨f2, R2.of_block (hb.block _ R2.lt)⟩, k.hA, k.box.of_block (hb.block _ k.box.lt), k.ga.later hb, k.sm⟩
theorem SG.lt {w w1 : World} {N : Nat} {cv : Value} {cs : List UInt8} {A : Nat} {W : World} {rv nv : Value} {g : Gr} (k : SG w w1 N cv cs A W rv nv g) : N < W.heap.size := by
  have := k.hN
  have := k.gr.size
  omega
/-- Both answers are written. -/
theorem SG.done {w w1 : World} {N : Nat} {cv : Value} {cs : List UInt8} {A : Nat} {W W' : World} {rv nv : Value} {g : Gr} {u : Value} {gb : Gr} {Wa : World} (k : SG w w1 N cv cs A W rv nv g) (gu : GAt w1.heap.size W u gb) (su : Gsb gb) (h1 : W.grownBy Wa (some w.heap.size)) (h2 : Wa.grownBy W' (some (w.heap.size + 1))) : DrawnGG w (.returned (.tuple #[.agg #[rv, nv, .int .i64 g.hash], u])) W' := by
  have hr := k.hr
  have hN := k.hN
  have b1 := gbel k.bw k.gr k.bw.size (by omega)
  have b2 := gbel b1 h1 b1.size (Nat.le_refl _)
  have b3 := gbel b2 h2 b2.size (by omega)
  exact ⟨⟨_, u, g, gb, rfl, ((k.ga.off h1 (by omega)).off h2 (by omega)).gr, ((gu.off h1 (by omega)).off h2 (by omega)).gr, k.sm.b, su⟩, b3⟩
theorem store_run3 (W : World) (b : Nat) (cs : Array Value) (f : Nat → Value) (hR : W.rowIs b 27 3 f) (hn : cs.size = 3) (h1 : cs.all (·.oneCell') = true) : ∃ w', (Instr.storeAt 27 (.pointer (some ⟨b, 0, none⟩)) (.agg cs)).run Tryd.prog W = .ok () w' ∧ w'.rowIs b 27 3 (fun i => cs[i]?.getD undef) ∧ W.grownBy w' (some b) :=
  ⟨_, run_store_box W 27 27 b 3 cs f hR hn (by kernel_rfl) h1, row_set W b _ 3 cs f hR hn, grown_setRow W b cs⟩
theorem exec_store3 {o : Oper} {T : Array Value} {D : List Deferred} {W W' : World} {p s : Operand} {t : TypeId} {a u : Value} (ho : o.op = .store t p s) (hp : Act.eval ⟨T, D⟩ p = a) (hs : Act.eval ⟨T, D⟩ s = u) (hrun : (Instr.storeAt t a u).run Tryd.prog W = .ok () W') :
    (execOp (Act.eval ⟨T, D⟩) o).run Tryd.prog W = .ok .skip W' := by
  simp [execOp, ho, hp, hs, hrun]

end Go.Proofs.YtboiknllmnfipaaDoor

/- Two graphs drawn: the second is a copy of the first. -/
namespace Go.Proofs.YtboiknllmnfipaaDoor
open Go.RowKit

theorem SG.copy {w w1 : World} {N : Nat} {cv : Value} {cs : List UInt8} {A : Nat} {W Wx W' : World} {rv : Value} {pn : Option Addr} {en : Nat} {g : Gr} {g3 d3 gn dn : Nat} {fv : Nat → Value} {hh : Int} (k : SG w w1 N cv cs A W rv (.slice pn g.nodes.length en) g) (hx : Below W.heap.size W Wx) (hb : Below W.heap.size W W')
    (ri : RI W' g3 g.roots d3) (h3 : W.heap.size ≤ g3) (nr : NRow W' gn g.nodes fv) (hg : W.heap.size ≤ gn) (hd : g.nodes.length ≤ dn) (hf : ∀ i, i < g.nodes.length → ∃ b o, pn = some ⟨b, o, none⟩ ∧ Wx.cell? ⟨b, o + i * 3 + 2, none⟩ = some (fv i)) :
    GAt w1.heap.size W' (.agg #[.slice (some ⟨g3, 0, none⟩) g.roots.length d3, .slice (some ⟨gn, 0, none⟩) g.nodes.length dn, .int .i64 hh]) ⟨g.roots, g.nodes, hh⟩ := by
  have hs := k.gr.size
  obtain ⟨rv', nv', e, ir, lr, h⟩ := k.ga
  simp only [Value.agg.injEq, Array.mk.injEq, List.cons.injEq, and_true] at e
  obtain ⟨rfl, rfl⟩ := e
  have fl : ∀ i, i < g.nodes.length → IR W' (fv i) (g.nodes.getD i nd0).fl ∧ LowG w1.heap.size (fv i) := by
    rcases h with ⟨e0, _⟩ | ⟨nb, nc, fa, e1, hn, hB, lf, hc⟩
    · intro i hi
      rw [e0] at hi
      simp at hi
    · intro i hi
      obtain ⟨b, o, e2, c2⟩ := hf i hi
      subst e2
      simp only [Value.slice.injEq, Option.some.injEq, Addr.mk.injEq, true_and, and_true] at e1
      obtain ⟨⟨rfl, rfl⟩, rfl⟩ := e1
      obtain ⟨M, f, R, hM, r⟩ := hn.row
      have c3 := cell_later hx (R.cell (i := i * 3 + 2) (by omega))
      rw [Nat.zero_add, c3, (r i hi).2.2] at c2
      have e3 : fa i = fv i := Option.some.inj c2
      rw [← e3]
      exact ⟨(hn.fl i hi).later hb, lf i hi⟩
  refine GAt.of (fv := fv) (ri.ir ri.le) (fun a n c e _ => ?_) ⟨nr, fun i hi => (fl i hi).1⟩ (by omega) (fun i hi => (fl i hi).2) hd
  simp only [Value.slice.injEq, Option.some.injEq] at e
  obtain ⟨rfl, _⟩ := e
  show w1.heap.size ≤ g3
  omega

end Go.Proofs.YtboiknllmnfipaaDoor

/- A region of a function, taken out of it. -/
namespace Go.Proofs.YtboiknllmnfipaaDoor
open Go.RowKit

/-- The region of this number. -/
def regQ (n : Nat) : Code → Option Code
  | .region i ops d => if i = n then some (.region i ops d) else none
  | .seq a b => match regQ n a with
    | some c => some c
    | none => regQ n b
  | .block _ c => regQ n c
  | .scope c => regQ n c
  | .loop c => regQ n c
  | .cond _ a b => match regQ n a with
    | some c => some c
    | none => regQ n b
  | _ => none

end Go.Proofs.YtboiknllmnfipaaDoor

/- A region of DrawSameGraph: a graph copied, its rows and its box in any order. -/
namespace Go.Proofs.YtboiknllmnfipaaDoor
open Go.RowKit

section
variable {P : Program} {md : Region.Mode} {ops : Array Oper} {Q : Exit → Act → World → Prop} {S : World → Prop} {z : Nat}
/-- One of three operations comes up. -/
theorem z_or3g {i j k fuel : Nat} {listed : Array Bool} {a : Act} {w : World} (hr : Region.ready md ops listed = [i, j, k])
    (h1 : wpOp P ops Q i (fun a' w' => (i = z ∨ S w') ∧ Disk.wpAnyZ P md ops Q z S fuel (listed.setIfInBounds i true) a' w') a w)
    (h2 : wpOp P ops Q j (fun a' w' => (j = z ∨ S w') ∧ Disk.wpAnyZ P md ops Q z S fuel (listed.setIfInBounds j true) a' w') a w)
    (h3 : wpOp P ops Q k (fun a' w' => (k = z ∨ S w') ∧ Disk.wpAnyZ P md ops Q z S fuel (listed.setIfInBounds k true) a' w') a w) : Disk.wpAnyZ P md ops Q z S (fuel + 1) listed a w := by
  refine ⟨fun h0 => (by rw [hr] at h0; cases h0), fun m hm => ?_⟩
  rw [hr] at hm
  simp at hm
  rcases hm with rfl | rfl | rfl
  · exact h1
  · exact h2
  · exact h3
end
theorem exec_appN {o : Oper} {a : Act} {w w' : World} {u : Value} (s x : Operand) (ho : o.op = .call { callee := .builtin .append, args := #[s, x], argTypes := #[25, 25] }) (v y : Value) (hs : a.eval s = v) (hx : a.eval x = y)
    (hr : (Builtin.append_ #[25, 25] o.type #[v, y]).run Tryd.prog w = .ok u w') : (execOp a.eval o).run Tryd.prog w = .ok (.value u) w' := by
  unfold execOp
  simp only [ho, resolve, invoke, builtin, Sem.run_bind, Sem.run_pure, Result.andThen_ok, List.map_toArray, List.map_cons, List.map_nil, hs, hx, hr]
theorem hlt {w : World} {b : Nat} {o : Obj} (h : w.heap[b]? = some o) : b < w.heap.size := (Array.getElem?_eq_some_iff.1 h).1
theorem ri_none (w : World) : RI (w.alloc (.cells #[] 2)) w.heap.size [] 0 := ⟨_, row_any w #[] 2, Nat.le_refl _, fun _ h => absurd h (Nat.not_lt_zero _)⟩
theorem NRow.lt {w : World} {b : Nat} {ns : List Nd} {fv : Nat → Value} (h : NRow w b ns fv) : b < w.heap.size := by
  obtain ⟨M, f, R, _⟩ := h
  exact R.lt
theorem NRow.block {w w' : World} {b : Nat} {ns : List Nd} {fv : Nat → Value} (h : NRow w b ns fv) (hb : w'.heap[b]? = w.heap[b]?) : NRow w' b ns fv := by
  obtain ⟨M, f, R, r⟩ := h
  exact ⟨M, f, R.of_block hb, r⟩
theorem grF_of {w : World} {X : Nat} {a b : Value} {h : Int} (k : w.rowIs X 27 3 (fun i => (#[a, b, .int .i64 h] : Array Value)[i]?.getD undef)) : w.rowIs X 27 3 (grF a b h) :=
  World.rowIs.congr k (fun i hi => by
    match i, hi with
    | 0, _ => rfl
    | 1, _ => rfl
    | 2, _ => rfl)

noncomputable def rg5 : Code := ((Tryd.f5.body.bind (regQ 5)).getD .skip)
set_option maxRecDepth 1000000 in
set_option maxHeartbeats 12800000 in
theorem greg5 {w4 : World} {A er en : Nat} {pr pn : Option Addr} {g : Gr} (CX : ∀ W, Below w4.heap.size w4 W → W.cell? ⟨A, 0, none⟩ = some (.slice pr g.roots.length er) ∧ W.cell? ⟨A, 1, none⟩ = some (.slice pn g.nodes.length en) ∧ W.cell? ⟨A, 2, none⟩ = some (.int .i64 g.hash))
    (IRr : IR w4 (.slice pr g.roots.length er) g.roots) (NRn : NR w4 (.slice pn g.nodes.length en) g.nodes) (sm : g.roots.length ≤ 1000 ∧ g.nodes.length ≤ 10000) {Q : Exit → Act → World → Prop} (u0 u1 u2 u3 u4 u6 u7 u8 u9 u10 u11 u12 u13 u14 u15 u16 u17 u18 u19 u20 u21 u22 u23 u24 u25 u26 u27 u28 u29 u30 u31 u32 u33 u34 u35 u36 u37 u38 u39 u40 u41 u42 u43 u44 u45 u46 u47 u48 u49 u50 u51 u52 u53 u54 u55 u56 u57 u58 u59 u60 u61 : Value)
    (hQ : ∀ (W Wx : World) (g3 d3 gn dn X : Nat) (fv : Nat → Value) (a16 a17 a18 a19 a20 a21 a22 a23 a24 a25 a26 : Value), Below w4.heap.size w4 W → Below w4.heap.size w4 Wx → RI W g3 g.roots d3 → d3 ≤ maxLen → NRow W gn g.nodes fv → g.nodes.length ≤ dn → (∀ i, i < g.nodes.length → ∃ b o, pn = some ⟨b, o, none⟩ ∧ Wx.cell? ⟨b, o + i * 3 + 2, none⟩ = some (fv i)) → W.rowIs X 27 3 (grF (.slice (some ⟨g3, 0, none⟩) g.roots.length d3) (.slice (some ⟨gn, 0, none⟩) g.nodes.length dn) g.hash) → w4.heap.size ≤ g3 → w4.heap.size ≤ gn → w4.heap.size ≤ X → g3 ≠ gn → g3 ≠ X → gn ≠ X → Q .normal ⟨List.toArray (u0 :: u1 :: u2 :: u3 :: u4 :: .pointer (some ⟨A, 0, none⟩) :: .pointer (some ⟨X, 0, none⟩) :: u7 :: u8 :: u9 :: u10 :: u11 :: u12 :: u13 :: u14 :: u15 :: a16 :: a17 :: a18 :: a19 :: a20 :: a21 :: a22 :: a23 :: a24 :: a25 :: a26 :: u27 :: u28 :: u29 :: u30 :: u31 :: u32 :: u33 :: u34 :: u35 :: u36 :: u37 :: u38 :: u39 :: u40 :: u41 :: u42 :: u43 :: u44 :: u45 :: u46 :: u47 :: u48 :: u49 :: u50 :: u51 :: u52 :: u53 :: u54 :: u55 :: u56 :: u57 :: u58 :: u59 :: u60 :: u61 :: []), []⟩ W) :
    Code.wp Tryd.prog rg5 Q ⟨List.toArray (u0 :: u1 :: u2 :: u3 :: u4 :: .pointer (some ⟨A, 0, none⟩) :: u6 :: u7 :: u8 :: u9 :: u10 :: u11 :: u12 :: u13 :: u14 :: u15 :: u16 :: u17 :: u18 :: u19 :: u20 :: u21 :: u22 :: u23 :: u24 :: u25 :: u26 :: u27 :: u28 :: u29 :: u30 :: u31 :: u32 :: u33 :: u34 :: u35 :: u36 :: u37 :: u38 :: u39 :: u40 :: u41 :: u42 :: u43 :: u44 :: u45 :: u46 :: u47 :: u48 :: u49 :: u50 :: u51 :: u52 :: u53 :: u54 :: u55 :: u56 :: u57 :: u58 :: u59 :: u60 :: u61 :: []), []⟩ w4 := by
  conv => arg 2; whnf
  have hmx : Tryd.prog.follows .mixedOrders = true := by kernel_rfl
  have hs0 : Below w4.heap.size w4 w4.drew := (Below.refl _ _).drew
  refine Disk.z_plain 99 (fun W' => Below w4.heap.size w4 W') hmx hs0 (fun hs => ?_)
  clear hs0
  generalize w4.drew = wd at hs ⊢
  refine Disk.z_take 1 17 (v := .pointer (some ⟨A, 0, none⟩)) rfl rfl (by kernel_rfl) (by kernel_rfl) (by kernel_rfl) (by kernel_rfl) (by rfl) hs (fun W' hSw => (by
    obtain ⟨s0, s1, s2⟩ := CX _ hSw
    go_simp; first | done | with_reducible rfl)) ?_
  simp only [List.setIfInBounds_toArray, List.set_cons_zero, List.set_cons_succ]
  refine Disk.z_take 2 18 (v := .slice pr g.roots.length er) rfl rfl (by kernel_rfl) (by kernel_rfl) (by kernel_rfl) (by kernel_rfl) (by rfl) hs (fun W' hSw => (by
    obtain ⟨s0, s1, s2⟩ := CX _ hSw
    go_simp; first | done | with_reducible rfl)) ?_
  simp only [List.setIfInBounds_toArray, List.set_cons_zero, List.set_cons_succ]
  refine Disk.z_take 5 21 (v := .pointer (some ⟨A, 1, none⟩)) rfl rfl (by kernel_rfl) (by kernel_rfl) (by kernel_rfl) (by kernel_rfl) (by rfl) hs (fun W' hSw => (by
    obtain ⟨s0, s1, s2⟩ := CX _ hSw
    go_simp; first | done | with_reducible rfl)) ?_
  simp only [List.setIfInBounds_toArray, List.set_cons_zero, List.set_cons_succ]
  refine Disk.z_take 6 22 (v := .slice pn g.nodes.length en) rfl rfl (by kernel_rfl) (by kernel_rfl) (by kernel_rfl) (by kernel_rfl) (by rfl) hs (fun W' hSw => (by
    obtain ⟨s0, s1, s2⟩ := CX _ hSw
    go_simp; first | done | with_reducible rfl)) ?_
  simp only [List.setIfInBounds_toArray, List.set_cons_zero, List.set_cons_succ]
  refine Disk.z_take 8 24 (v := .pointer (some ⟨A, 2, none⟩)) rfl rfl (by kernel_rfl) (by kernel_rfl) (by kernel_rfl) (by kernel_rfl) (by rfl) hs (fun W' hSw => (by
    obtain ⟨s0, s1, s2⟩ := CX _ hSw
    go_simp; first | done | with_reducible rfl)) ?_
  simp only [List.setIfInBounds_toArray, List.set_cons_zero, List.set_cons_succ]
  refine Disk.z_take 9 25 (v := .int .i64 g.hash) rfl rfl (by kernel_rfl) (by kernel_rfl) (by kernel_rfl) (by kernel_rfl) (by rfl) hs (fun W' hSw => (by
    obtain ⟨s0, s1, s2⟩ := CX _ hSw
    go_simp; first | done | with_reducible rfl)) ?_
  simp only [List.setIfInBounds_toArray, List.set_cons_zero, List.set_cons_succ]
  refine z_or3g (i := 0) (j := 4) (k := 11) (by kernel_rfl) ?_ ?_ ?_
  · obtain ⟨wn1, b0, ew, eb, hbt, RR⟩ : ∃ wm b0, wm = wd.alloc (.cells #[] 2) ∧ b0 = wd.heap.size ∧ Below wd.heap.size wd wm ∧ RI wm b0 [] 0 := ⟨_, _, rfl, rfl, bel_one _ _, ri_none _⟩
    have lp : w4.heap.size ≤ b0 := by rw [eb]; exact hs.size
    have hs1 := bel_after hs hbt
    refine o_run 0 16 (v := .slice (some ⟨b0, 0, none⟩) 0 0) rfl rfl (by rfl) (w' := wn1) (by subst ew; subst eb; go_simp; first | done | with_reducible rfl) (.inr hs1) ?_
    simp only [List.setIfInBounds_toArray, List.set_cons_zero, List.set_cons_succ]
    clear ew eb hs hbt
    refine z_or3g (i := 3) (j := 4) (k := 11) (by kernel_rfl) ?_ ?_ ?_
    · obtain ⟨g3, d3, wn2, run, RR3, gr, lo, hd3⟩ := run_app_ri wn1 24 b0 0 0 [] rfl RR (Nat.zero_le _) (Nat.zero_le _) pr er g.roots.length g.roots rfl (IRr.later hs1) (by omega)
      rw [Nat.zero_add] at run
      rw [List.nil_append] at RR3
      have lp' : w4.heap.size ≤ g3 := by have := hs1.size; rcases lo with q | q <;> omega
      have hs2 := Below.grown hs1 gr hs1.size (fun k e => by cases e; exact lp)
      refine o_run 3 19 (v := .slice (some ⟨g3, 0, none⟩) g.roots.length d3) rfl rfl (by rfl) (w' := wn2) (exec_appI _ _ rfl _ _ rfl rfl run) (.inr hs2) ?_
      simp only [List.setIfInBounds_toArray, List.set_cons_zero, List.set_cons_succ]
      clear RR lp run gr lo hs1
      have RR := RR3
      have lp := lp'
      clear RR3 lp'
      refine z_or (i := 4) (j := 11) (by kernel_rfl) ?_ ?_
      · obtain ⟨wn3, b4, ew, eb, hbt, H4⟩ : ∃ wm b4, wm = wn2.alloc (.cells #[] 37) ∧ b4 = wn2.heap.size ∧ Below wn2.heap.size wn2 wm ∧ wm.heap[b4]? = some (.cells #[] 37) := ⟨_, _, rfl, rfl, bel_one _ _, heap_alloc_new _ _⟩
        have npq : g3 ≠ b4 := by have := RR.lt; omega
        have lq : w4.heap.size ≤ b4 := by rw [eb]; exact hs2.size
        have hs3 := bel_after hs2 hbt
        refine o_run 4 20 (v := .slice (some ⟨b4, 0, none⟩) 0 0) rfl rfl (by rfl) (w' := wn3) (by subst ew; subst eb; go_simp; first | done | with_reducible rfl) (.inr hs3) ?_
        simp only [List.setIfInBounds_toArray, List.set_cons_zero, List.set_cons_succ]
        replace RR := RR.later hbt
        clear ew eb hs2 hbt
        refine z_or (i := 7) (j := 11) (by kernel_rfl) ?_ ?_
        · obtain ⟨gn, dn, wn4, fv, run, NN, gr, lo, hdn, hf⟩ := copy_nodes wn3 25 b4 H4 pn en g.nodes (NRn.later hs3) sm.2
          have hf2 : ∀ i, i < g.nodes.length → ∃ b o, pn = some ⟨b, o, none⟩ ∧ wn3.cell? ⟨b, o + i * 3 + 2, none⟩ = some (fv i) := fun i hi => (hf i hi).1
          have hsx := hs3
          have npq' : g3 ≠ gn := by have := RR.lt; rcases lo with q | q <;> omega
          replace RR := RR.grown gr (fun e => npq (Option.some.inj e))
          clear npq
          have npq := npq'
          clear npq'
          have lq' : w4.heap.size ≤ gn := by have := hs3.size; rcases lo with q | q <;> omega
          have hs4 := Below.grown hs3 gr hs3.size (fun k e => by cases e; exact lq)
          refine o_run 7 23 (v := .slice (some ⟨gn, 0, none⟩) g.nodes.length dn) rfl rfl (by rfl) (w' := wn4) (exec_appN _ _ rfl _ _ rfl rfl run) (.inr hs4) ?_
          simp only [List.setIfInBounds_toArray, List.set_cons_zero, List.set_cons_succ]
          clear H4 lq run gr lo hs3 hf
          have lq := lq'
          clear lq'
          refine Disk.z_take 10 26 (v := .agg #[.slice (some ⟨g3, 0, none⟩) g.roots.length d3, .slice (some ⟨gn, 0, none⟩) g.nodes.length dn, .int .i64 g.hash]) rfl rfl (by kernel_rfl) (by kernel_rfl) (by kernel_rfl) (by kernel_rfl) (by rfl) hs4 (fun W' _ => (by go_simp; first | done | with_reducible rfl)) ?_
          simp only [List.setIfInBounds_toArray, List.set_cons_zero, List.set_cons_succ]
          obtain ⟨wn5, X, ew, eb, hbt, RX⟩ : ∃ wm X, wm = wn4.alloc (.cells #[.slice none 0 0, .slice none 0 0, .int .i64 0] 27) ∧ X = wn4.heap.size ∧ Below wn4.heap.size wn4 wm ∧ wm.rowIs X 27 3 (fun i => (#[.slice none 0 0, .slice none 0 0, .int .i64 0] : Array Value)[i]?.getD undef) := ⟨_, _, rfl, rfl, bel_one _ _, row_any wn4 #[.slice none 0 0, .slice none 0 0, .int .i64 0] 27⟩
          have npx : g3 ≠ X := by have := RR.lt; omega
          have nqx : gn ≠ X := by have := NN.lt; omega
          have lx : w4.heap.size ≤ X := by rw [eb]; exact hs4.size
          have hs5 := bel_after hs4 hbt
          refine Disk.z_run 11 6 (v := .pointer (some ⟨X, 0, none⟩)) rfl rfl (by kernel_rfl) (by rfl) (w' := wn5) (by subst ew; subst eb; go_simp; first | done | with_reducible rfl) (.inr hs5) ?_
          simp only [List.setIfInBounds_toArray, List.set_cons_zero, List.set_cons_succ]
          replace RR := RR.later hbt
          replace NN := NN.block (hbt.block _ NN.lt)
          clear ew eb hs4 hbt
          have run9 := run_store_box wn5 27 27 X 3 #[.slice (some ⟨g3, 0, none⟩) g.roots.length d3, .slice (some ⟨gn, 0, none⟩) g.nodes.length dn, .int .i64 g.hash] _ RX rfl (by kernel_rfl) (by simp [Value.oneCell'])
          have F9 := row_set wn5 X 27 3 #[.slice (some ⟨g3, 0, none⟩) g.roots.length d3, .slice (some ⟨gn, 0, none⟩) g.nodes.length dn, .int .i64 g.hash] _ RX rfl
          have G9 := grown_setRow wn5 X #[.slice (some ⟨g3, 0, none⟩) g.roots.length d3, .slice (some ⟨gn, 0, none⟩) g.nodes.length dn, .int .i64 g.hash]
          have hs9 := Below.grown hs5 G9 hs5.size (fun k e => by cases e; exact lx)
          refine Disk.z_skip 12 (w' := wn5.setRow X #[.slice (some ⟨g3, 0, none⟩) g.roots.length d3, .slice (some ⟨gn, 0, none⟩) g.nodes.length dn, .int .i64 g.hash]) rfl rfl (by kernel_rfl) (by rfl) (exec_store3 rfl rfl rfl run9) (.inr hs9) ?_
          refine Disk.z_done (by kernel_rfl) ?_ _
          exact hQ _ _ g3 d3 gn dn X fv _ _ _ _ _ _ _ _ _ _ _ hs9 hsx (RR.grown G9 (fun e => npx (Option.some.inj e))) hd3 (NN.block (G9.block _ NN.lt (fun e => nqx (Option.some.inj e)))) hdn hf2 (grF_of F9) lp lq lx npq npx nqx
        · obtain ⟨wn6, X, ew, eb, hbt, RX⟩ : ∃ wm X, wm = wn3.alloc (.cells #[.slice none 0 0, .slice none 0 0, .int .i64 0] 27) ∧ X = wn3.heap.size ∧ Below wn3.heap.size wn3 wm ∧ wm.rowIs X 27 3 (fun i => (#[.slice none 0 0, .slice none 0 0, .int .i64 0] : Array Value)[i]?.getD undef) := ⟨_, _, rfl, rfl, bel_one _ _, row_any wn3 #[.slice none 0 0, .slice none 0 0, .int .i64 0] 27⟩
          have npx : g3 ≠ X := by have := RR.lt; omega
          have nqx : b4 ≠ X := by have := hlt H4; omega
          have lx : w4.heap.size ≤ X := by rw [eb]; exact hs3.size
          have hs6 := bel_after hs3 hbt
          refine o_run 11 6 (v := .pointer (some ⟨X, 0, none⟩)) rfl rfl (by rfl) (w' := wn6) (by subst ew; subst eb; go_simp; first | done | with_reducible rfl) (.inr hs6) ?_
          simp only [List.setIfInBounds_toArray, List.set_cons_zero, List.set_cons_succ]
          replace RR := RR.later hbt
          replace H4 := (hbt.block _ (hlt H4)).trans H4
          clear ew eb hs3 hbt
          obtain ⟨gn, dn, wn7, fv, run, NN, gr, lo, hdn, hf⟩ := copy_nodes wn6 25 b4 H4 pn en g.nodes (NRn.later hs6) sm.2
          have hf2 : ∀ i, i < g.nodes.length → ∃ b o, pn = some ⟨b, o, none⟩ ∧ wn6.cell? ⟨b, o + i * 3 + 2, none⟩ = some (fv i) := fun i hi => (hf i hi).1
          have hsx := hs6
          have npq' : g3 ≠ gn := by have := RR.lt; rcases lo with q | q <;> omega
          replace RR := RR.grown gr (fun e => npq (Option.some.inj e))
          clear npq
          have npq := npq'
          clear npq'
          have nqx' : gn ≠ X := by have := RX.lt; rcases lo with q | q <;> omega
          replace RX := RX.of_block (gr.block _ RX.lt (fun e => nqx (Option.some.inj e).symm))
          clear nqx
          have nqx := nqx'
          clear nqx'
          have lq' : w4.heap.size ≤ gn := by have := hs6.size; rcases lo with q | q <;> omega
          have hs7 := Below.grown hs6 gr hs6.size (fun k e => by cases e; exact lq)
          refine Disk.z_run 7 23 (v := .slice (some ⟨gn, 0, none⟩) g.nodes.length dn) rfl rfl (by kernel_rfl) (by rfl) (w' := wn7) (exec_appN _ _ rfl _ _ rfl rfl run) (.inr hs7) ?_
          simp only [List.setIfInBounds_toArray, List.set_cons_zero, List.set_cons_succ]
          clear H4 lq run gr lo hs6 hf
          have lq := lq'
          clear lq'
          refine Disk.z_take 10 26 (v := .agg #[.slice (some ⟨g3, 0, none⟩) g.roots.length d3, .slice (some ⟨gn, 0, none⟩) g.nodes.length dn, .int .i64 g.hash]) rfl rfl (by kernel_rfl) (by kernel_rfl) (by kernel_rfl) (by kernel_rfl) (by rfl) hs7 (fun W' _ => (by go_simp; first | done | with_reducible rfl)) ?_
          simp only [List.setIfInBounds_toArray, List.set_cons_zero, List.set_cons_succ]
          have run9 := run_store_box wn7 27 27 X 3 #[.slice (some ⟨g3, 0, none⟩) g.roots.length d3, .slice (some ⟨gn, 0, none⟩) g.nodes.length dn, .int .i64 g.hash] _ RX rfl (by kernel_rfl) (by simp [Value.oneCell'])
          have F9 := row_set wn7 X 27 3 #[.slice (some ⟨g3, 0, none⟩) g.roots.length d3, .slice (some ⟨gn, 0, none⟩) g.nodes.length dn, .int .i64 g.hash] _ RX rfl
          have G9 := grown_setRow wn7 X #[.slice (some ⟨g3, 0, none⟩) g.roots.length d3, .slice (some ⟨gn, 0, none⟩) g.nodes.length dn, .int .i64 g.hash]
          have hs9 := Below.grown hs7 G9 hs7.size (fun k e => by cases e; exact lx)
          refine Disk.z_skip 12 (w' := wn7.setRow X #[.slice (some ⟨g3, 0, none⟩) g.roots.length d3, .slice (some ⟨gn, 0, none⟩) g.nodes.length dn, .int .i64 g.hash]) rfl rfl (by kernel_rfl) (by rfl) (exec_store3 rfl rfl rfl run9) (.inr hs9) ?_
          refine Disk.z_done (by kernel_rfl) ?_ _
          exact hQ _ _ g3 d3 gn dn X fv _ _ _ _ _ _ _ _ _ _ _ hs9 hsx (RR.grown G9 (fun e => npx (Option.some.inj e))) hd3 (NN.block (G9.block _ NN.lt (fun e => nqx (Option.some.inj e)))) hdn hf2 (grF_of F9) lp lq lx npq npx nqx
      · obtain ⟨wn8, X, ew, eb, hbt, RX⟩ : ∃ wm X, wm = wn2.alloc (.cells #[.slice none 0 0, .slice none 0 0, .int .i64 0] 27) ∧ X = wn2.heap.size ∧ Below wn2.heap.size wn2 wm ∧ wm.rowIs X 27 3 (fun i => (#[.slice none 0 0, .slice none 0 0, .int .i64 0] : Array Value)[i]?.getD undef) := ⟨_, _, rfl, rfl, bel_one _ _, row_any wn2 #[.slice none 0 0, .slice none 0 0, .int .i64 0] 27⟩
        have npx : g3 ≠ X := by have := RR.lt; omega
        have lx : w4.heap.size ≤ X := by rw [eb]; exact hs2.size
        have hs8 := bel_after hs2 hbt
        refine o_run 11 6 (v := .pointer (some ⟨X, 0, none⟩)) rfl rfl (by rfl) (w' := wn8) (by subst ew; subst eb; go_simp; first | done | with_reducible rfl) (.inr hs8) ?_
        simp only [List.setIfInBounds_toArray, List.set_cons_zero, List.set_cons_succ]
        replace RR := RR.later hbt
        clear ew eb hs2 hbt
        obtain ⟨wn9, b4, ew, eb, hbt, H4⟩ : ∃ wm b4, wm = wn8.alloc (.cells #[] 37) ∧ b4 = wn8.heap.size ∧ Below wn8.heap.size wn8 wm ∧ wm.heap[b4]? = some (.cells #[] 37) := ⟨_, _, rfl, rfl, bel_one _ _, heap_alloc_new _ _⟩
        have npq : g3 ≠ b4 := by have := RR.lt; omega
        have nqx : b4 ≠ X := by have := RX.lt; omega
        have lq : w4.heap.size ≤ b4 := by rw [eb]; exact hs8.size
        have hs9 := bel_after hs8 hbt
        refine Disk.z_run 4 20 (v := .slice (some ⟨b4, 0, none⟩) 0 0) rfl rfl (by kernel_rfl) (by rfl) (w' := wn9) (by subst ew; subst eb; go_simp; first | done | with_reducible rfl) (.inr hs9) ?_
        simp only [List.setIfInBounds_toArray, List.set_cons_zero, List.set_cons_succ]
        replace RR := RR.later hbt
        replace RX := RX.of_block (hbt.block _ RX.lt)
        clear ew eb hs8 hbt
        obtain ⟨gn, dn, wn10, fv, run, NN, gr, lo, hdn, hf⟩ := copy_nodes wn9 25 b4 H4 pn en g.nodes (NRn.later hs9) sm.2
        have hf2 : ∀ i, i < g.nodes.length → ∃ b o, pn = some ⟨b, o, none⟩ ∧ wn9.cell? ⟨b, o + i * 3 + 2, none⟩ = some (fv i) := fun i hi => (hf i hi).1
        have hsx := hs9
        have npq' : g3 ≠ gn := by have := RR.lt; rcases lo with q | q <;> omega
        replace RR := RR.grown gr (fun e => npq (Option.some.inj e))
        clear npq
        have npq := npq'
        clear npq'
        have nqx' : gn ≠ X := by have := RX.lt; rcases lo with q | q <;> omega
        replace RX := RX.of_block (gr.block _ RX.lt (fun e => nqx (Option.some.inj e).symm))
        clear nqx
        have nqx := nqx'
        clear nqx'
        have lq' : w4.heap.size ≤ gn := by have := hs9.size; rcases lo with q | q <;> omega
        have hs10 := Below.grown hs9 gr hs9.size (fun k e => by cases e; exact lq)
        refine Disk.z_run 7 23 (v := .slice (some ⟨gn, 0, none⟩) g.nodes.length dn) rfl rfl (by kernel_rfl) (by rfl) (w' := wn10) (exec_appN _ _ rfl _ _ rfl rfl run) (.inr hs10) ?_
        simp only [List.setIfInBounds_toArray, List.set_cons_zero, List.set_cons_succ]
        clear H4 lq run gr lo hs9 hf
        have lq := lq'
        clear lq'
        refine Disk.z_take 10 26 (v := .agg #[.slice (some ⟨g3, 0, none⟩) g.roots.length d3, .slice (some ⟨gn, 0, none⟩) g.nodes.length dn, .int .i64 g.hash]) rfl rfl (by kernel_rfl) (by kernel_rfl) (by kernel_rfl) (by kernel_rfl) (by rfl) hs10 (fun W' _ => (by go_simp; first | done | with_reducible rfl)) ?_
        simp only [List.setIfInBounds_toArray, List.set_cons_zero, List.set_cons_succ]
        have run9 := run_store_box wn10 27 27 X 3 #[.slice (some ⟨g3, 0, none⟩) g.roots.length d3, .slice (some ⟨gn, 0, none⟩) g.nodes.length dn, .int .i64 g.hash] _ RX rfl (by kernel_rfl) (by simp [Value.oneCell'])
        have F9 := row_set wn10 X 27 3 #[.slice (some ⟨g3, 0, none⟩) g.roots.length d3, .slice (some ⟨gn, 0, none⟩) g.nodes.length dn, .int .i64 g.hash] _ RX rfl
        have G9 := grown_setRow wn10 X #[.slice (some ⟨g3, 0, none⟩) g.roots.length d3, .slice (some ⟨gn, 0, none⟩) g.nodes.length dn, .int .i64 g.hash]
        have hs9 := Below.grown hs10 G9 hs10.size (fun k e => by cases e; exact lx)
        refine Disk.z_skip 12 (w' := wn10.setRow X #[.slice (some ⟨g3, 0, none⟩) g.roots.length d3, .slice (some ⟨gn, 0, none⟩) g.nodes.length dn, .int .i64 g.hash]) rfl rfl (by kernel_rfl) (by rfl) (exec_store3 rfl rfl rfl run9) (.inr hs9) ?_
        refine Disk.z_done (by kernel_rfl) ?_ _
        exact hQ _ _ g3 d3 gn dn X fv _ _ _ _ _ _ _ _ _ _ _ hs9 hsx (RR.grown G9 (fun e => npx (Option.some.inj e))) hd3 (NN.block (G9.block _ NN.lt (fun e => nqx (Option.some.inj e)))) hdn hf2 (grF_of F9) lp lq lx npq npx nqx
    · obtain ⟨wn11, b4, ew, eb, hbt, H4⟩ : ∃ wm b4, wm = wn1.alloc (.cells #[] 37) ∧ b4 = wn1.heap.size ∧ Below wn1.heap.size wn1 wm ∧ wm.heap[b4]? = some (.cells #[] 37) := ⟨_, _, rfl, rfl, bel_one _ _, heap_alloc_new _ _⟩
      have npq : b0 ≠ b4 := by have := RR.lt; omega
      have lq : w4.heap.size ≤ b4 := by rw [eb]; exact hs1.size
      have hs11 := bel_after hs1 hbt
      refine o_run 4 20 (v := .slice (some ⟨b4, 0, none⟩) 0 0) rfl rfl (by rfl) (w' := wn11) (by subst ew; subst eb; go_simp; first | done | with_reducible rfl) (.inr hs11) ?_
      simp only [List.setIfInBounds_toArray, List.set_cons_zero, List.set_cons_succ]
      replace RR := RR.later hbt
      clear ew eb hs1 hbt
      refine z_or (i := 3) (j := 11) (by kernel_rfl) ?_ ?_
      · obtain ⟨g3, d3, wn12, run, RR3, gr, lo, hd3⟩ := run_app_ri wn11 24 b0 0 0 [] rfl RR (Nat.zero_le _) (Nat.zero_le _) pr er g.roots.length g.roots rfl (IRr.later hs11) (by omega)
        rw [Nat.zero_add] at run
        rw [List.nil_append] at RR3
        have npq' : g3 ≠ b4 := by have := hlt H4; rcases lo with q | q <;> omega
        replace H4 := (gr.block _ (hlt H4) (fun e => npq (Option.some.inj e).symm)).trans H4
        clear npq
        have npq := npq'
        clear npq'
        have lp' : w4.heap.size ≤ g3 := by have := hs11.size; rcases lo with q | q <;> omega
        have hs12 := Below.grown hs11 gr hs11.size (fun k e => by cases e; exact lp)
        refine o_run 3 19 (v := .slice (some ⟨g3, 0, none⟩) g.roots.length d3) rfl rfl (by rfl) (w' := wn12) (exec_appI _ _ rfl _ _ rfl rfl run) (.inr hs12) ?_
        simp only [List.setIfInBounds_toArray, List.set_cons_zero, List.set_cons_succ]
        clear RR lp run gr lo hs11
        have RR := RR3
        have lp := lp'
        clear RR3 lp'
        refine z_or (i := 7) (j := 11) (by kernel_rfl) ?_ ?_
        · obtain ⟨gn, dn, wn13, fv, run, NN, gr, lo, hdn, hf⟩ := copy_nodes wn12 25 b4 H4 pn en g.nodes (NRn.later hs12) sm.2
          have hf2 : ∀ i, i < g.nodes.length → ∃ b o, pn = some ⟨b, o, none⟩ ∧ wn12.cell? ⟨b, o + i * 3 + 2, none⟩ = some (fv i) := fun i hi => (hf i hi).1
          have hsx := hs12
          have npq' : g3 ≠ gn := by have := RR.lt; rcases lo with q | q <;> omega
          replace RR := RR.grown gr (fun e => npq (Option.some.inj e))
          clear npq
          have npq := npq'
          clear npq'
          have lq' : w4.heap.size ≤ gn := by have := hs12.size; rcases lo with q | q <;> omega
          have hs13 := Below.grown hs12 gr hs12.size (fun k e => by cases e; exact lq)
          refine o_run 7 23 (v := .slice (some ⟨gn, 0, none⟩) g.nodes.length dn) rfl rfl (by rfl) (w' := wn13) (exec_appN _ _ rfl _ _ rfl rfl run) (.inr hs13) ?_
          simp only [List.setIfInBounds_toArray, List.set_cons_zero, List.set_cons_succ]
          clear H4 lq run gr lo hs12 hf
          have lq := lq'
          clear lq'
          refine Disk.z_take 10 26 (v := .agg #[.slice (some ⟨g3, 0, none⟩) g.roots.length d3, .slice (some ⟨gn, 0, none⟩) g.nodes.length dn, .int .i64 g.hash]) rfl rfl (by kernel_rfl) (by kernel_rfl) (by kernel_rfl) (by kernel_rfl) (by rfl) hs13 (fun W' _ => (by go_simp; first | done | with_reducible rfl)) ?_
          simp only [List.setIfInBounds_toArray, List.set_cons_zero, List.set_cons_succ]
          obtain ⟨wn14, X, ew, eb, hbt, RX⟩ : ∃ wm X, wm = wn13.alloc (.cells #[.slice none 0 0, .slice none 0 0, .int .i64 0] 27) ∧ X = wn13.heap.size ∧ Below wn13.heap.size wn13 wm ∧ wm.rowIs X 27 3 (fun i => (#[.slice none 0 0, .slice none 0 0, .int .i64 0] : Array Value)[i]?.getD undef) := ⟨_, _, rfl, rfl, bel_one _ _, row_any wn13 #[.slice none 0 0, .slice none 0 0, .int .i64 0] 27⟩
          have npx : g3 ≠ X := by have := RR.lt; omega
          have nqx : gn ≠ X := by have := NN.lt; omega
          have lx : w4.heap.size ≤ X := by rw [eb]; exact hs13.size
          have hs14 := bel_after hs13 hbt
          refine Disk.z_run 11 6 (v := .pointer (some ⟨X, 0, none⟩)) rfl rfl (by kernel_rfl) (by rfl) (w' := wn14) (by subst ew; subst eb; go_simp; first | done | with_reducible rfl) (.inr hs14) ?_
          simp only [List.setIfInBounds_toArray, List.set_cons_zero, List.set_cons_succ]
          replace RR := RR.later hbt
          replace NN := NN.block (hbt.block _ NN.lt)
          clear ew eb hs13 hbt
          have run9 := run_store_box wn14 27 27 X 3 #[.slice (some ⟨g3, 0, none⟩) g.roots.length d3, .slice (some ⟨gn, 0, none⟩) g.nodes.length dn, .int .i64 g.hash] _ RX rfl (by kernel_rfl) (by simp [Value.oneCell'])
          have F9 := row_set wn14 X 27 3 #[.slice (some ⟨g3, 0, none⟩) g.roots.length d3, .slice (some ⟨gn, 0, none⟩) g.nodes.length dn, .int .i64 g.hash] _ RX rfl
          have G9 := grown_setRow wn14 X #[.slice (some ⟨g3, 0, none⟩) g.roots.length d3, .slice (some ⟨gn, 0, none⟩) g.nodes.length dn, .int .i64 g.hash]
          have hs9 := Below.grown hs14 G9 hs14.size (fun k e => by cases e; exact lx)
          refine Disk.z_skip 12 (w' := wn14.setRow X #[.slice (some ⟨g3, 0, none⟩) g.roots.length d3, .slice (some ⟨gn, 0, none⟩) g.nodes.length dn, .int .i64 g.hash]) rfl rfl (by kernel_rfl) (by rfl) (exec_store3 rfl rfl rfl run9) (.inr hs9) ?_
          refine Disk.z_done (by kernel_rfl) ?_ _
          exact hQ _ _ g3 d3 gn dn X fv _ _ _ _ _ _ _ _ _ _ _ hs9 hsx (RR.grown G9 (fun e => npx (Option.some.inj e))) hd3 (NN.block (G9.block _ NN.lt (fun e => nqx (Option.some.inj e)))) hdn hf2 (grF_of F9) lp lq lx npq npx nqx
        · obtain ⟨wn15, X, ew, eb, hbt, RX⟩ : ∃ wm X, wm = wn12.alloc (.cells #[.slice none 0 0, .slice none 0 0, .int .i64 0] 27) ∧ X = wn12.heap.size ∧ Below wn12.heap.size wn12 wm ∧ wm.rowIs X 27 3 (fun i => (#[.slice none 0 0, .slice none 0 0, .int .i64 0] : Array Value)[i]?.getD undef) := ⟨_, _, rfl, rfl, bel_one _ _, row_any wn12 #[.slice none 0 0, .slice none 0 0, .int .i64 0] 27⟩
          have npx : g3 ≠ X := by have := RR.lt; omega
          have nqx : b4 ≠ X := by have := hlt H4; omega
          have lx : w4.heap.size ≤ X := by rw [eb]; exact hs12.size
          have hs15 := bel_after hs12 hbt
          refine o_run 11 6 (v := .pointer (some ⟨X, 0, none⟩)) rfl rfl (by rfl) (w' := wn15) (by subst ew; subst eb; go_simp; first | done | with_reducible rfl) (.inr hs15) ?_
          simp only [List.setIfInBounds_toArray, List.set_cons_zero, List.set_cons_succ]
          replace RR := RR.later hbt
          replace H4 := (hbt.block _ (hlt H4)).trans H4
          clear ew eb hs12 hbt
          obtain ⟨gn, dn, wn16, fv, run, NN, gr, lo, hdn, hf⟩ := copy_nodes wn15 25 b4 H4 pn en g.nodes (NRn.later hs15) sm.2
          have hf2 : ∀ i, i < g.nodes.length → ∃ b o, pn = some ⟨b, o, none⟩ ∧ wn15.cell? ⟨b, o + i * 3 + 2, none⟩ = some (fv i) := fun i hi => (hf i hi).1
          have hsx := hs15
          have npq' : g3 ≠ gn := by have := RR.lt; rcases lo with q | q <;> omega
          replace RR := RR.grown gr (fun e => npq (Option.some.inj e))
          clear npq
          have npq := npq'
          clear npq'
          have nqx' : gn ≠ X := by have := RX.lt; rcases lo with q | q <;> omega
          replace RX := RX.of_block (gr.block _ RX.lt (fun e => nqx (Option.some.inj e).symm))
          clear nqx
          have nqx := nqx'
          clear nqx'
          have lq' : w4.heap.size ≤ gn := by have := hs15.size; rcases lo with q | q <;> omega
          have hs16 := Below.grown hs15 gr hs15.size (fun k e => by cases e; exact lq)
          refine Disk.z_run 7 23 (v := .slice (some ⟨gn, 0, none⟩) g.nodes.length dn) rfl rfl (by kernel_rfl) (by rfl) (w' := wn16) (exec_appN _ _ rfl _ _ rfl rfl run) (.inr hs16) ?_
          simp only [List.setIfInBounds_toArray, List.set_cons_zero, List.set_cons_succ]
          clear H4 lq run gr lo hs15 hf
          have lq := lq'
          clear lq'
          refine Disk.z_take 10 26 (v := .agg #[.slice (some ⟨g3, 0, none⟩) g.roots.length d3, .slice (some ⟨gn, 0, none⟩) g.nodes.length dn, .int .i64 g.hash]) rfl rfl (by kernel_rfl) (by kernel_rfl) (by kernel_rfl) (by kernel_rfl) (by rfl) hs16 (fun W' _ => (by go_simp; first | done | with_reducible rfl)) ?_
          simp only [List.setIfInBounds_toArray, List.set_cons_zero, List.set_cons_succ]
          have run9 := run_store_box wn16 27 27 X 3 #[.slice (some ⟨g3, 0, none⟩) g.roots.length d3, .slice (some ⟨gn, 0, none⟩) g.nodes.length dn, .int .i64 g.hash] _ RX rfl (by kernel_rfl) (by simp [Value.oneCell'])
          have F9 := row_set wn16 X 27 3 #[.slice (some ⟨g3, 0, none⟩) g.roots.length d3, .slice (some ⟨gn, 0, none⟩) g.nodes.length dn, .int .i64 g.hash] _ RX rfl
          have G9 := grown_setRow wn16 X #[.slice (some ⟨g3, 0, none⟩) g.roots.length d3, .slice (some ⟨gn, 0, none⟩) g.nodes.length dn, .int .i64 g.hash]
          have hs9 := Below.grown hs16 G9 hs16.size (fun k e => by cases e; exact lx)
          refine Disk.z_skip 12 (w' := wn16.setRow X #[.slice (some ⟨g3, 0, none⟩) g.roots.length d3, .slice (some ⟨gn, 0, none⟩) g.nodes.length dn, .int .i64 g.hash]) rfl rfl (by kernel_rfl) (by rfl) (exec_store3 rfl rfl rfl run9) (.inr hs9) ?_
          refine Disk.z_done (by kernel_rfl) ?_ _
          exact hQ _ _ g3 d3 gn dn X fv _ _ _ _ _ _ _ _ _ _ _ hs9 hsx (RR.grown G9 (fun e => npx (Option.some.inj e))) hd3 (NN.block (G9.block _ NN.lt (fun e => nqx (Option.some.inj e)))) hdn hf2 (grF_of F9) lp lq lx npq npx nqx
      · obtain ⟨wn17, X, ew, eb, hbt, RX⟩ : ∃ wm X, wm = wn11.alloc (.cells #[.slice none 0 0, .slice none 0 0, .int .i64 0] 27) ∧ X = wn11.heap.size ∧ Below wn11.heap.size wn11 wm ∧ wm.rowIs X 27 3 (fun i => (#[.slice none 0 0, .slice none 0 0, .int .i64 0] : Array Value)[i]?.getD undef) := ⟨_, _, rfl, rfl, bel_one _ _, row_any wn11 #[.slice none 0 0, .slice none 0 0, .int .i64 0] 27⟩
        have npx : b0 ≠ X := by have := RR.lt; omega
        have nqx : b4 ≠ X := by have := hlt H4; omega
        have lx : w4.heap.size ≤ X := by rw [eb]; exact hs11.size
        have hs17 := bel_after hs11 hbt
        refine o_run 11 6 (v := .pointer (some ⟨X, 0, none⟩)) rfl rfl (by rfl) (w' := wn17) (by subst ew; subst eb; go_simp; first | done | with_reducible rfl) (.inr hs17) ?_
        simp only [List.setIfInBounds_toArray, List.set_cons_zero, List.set_cons_succ]
        replace RR := RR.later hbt
        replace H4 := (hbt.block _ (hlt H4)).trans H4
        clear ew eb hs11 hbt
        obtain ⟨g3, d3, wn18, run, RR3, gr, lo, hd3⟩ := run_app_ri wn17 24 b0 0 0 [] rfl RR (Nat.zero_le _) (Nat.zero_le _) pr er g.roots.length g.roots rfl (IRr.later hs17) (by omega)
        rw [Nat.zero_add] at run
        rw [List.nil_append] at RR3
        have npq' : g3 ≠ b4 := by have := hlt H4; rcases lo with q | q <;> omega
        replace H4 := (gr.block _ (hlt H4) (fun e => npq (Option.some.inj e).symm)).trans H4
        clear npq
        have npq := npq'
        clear npq'
        have npx' : g3 ≠ X := by have := RX.lt; rcases lo with q | q <;> omega
        replace RX := RX.of_block (gr.block _ RX.lt (fun e => npx (Option.some.inj e).symm))
        clear npx
        have npx := npx'
        clear npx'
        have lp' : w4.heap.size ≤ g3 := by have := hs17.size; rcases lo with q | q <;> omega
        have hs18 := Below.grown hs17 gr hs17.size (fun k e => by cases e; exact lp)
        refine Disk.z_run 3 19 (v := .slice (some ⟨g3, 0, none⟩) g.roots.length d3) rfl rfl (by kernel_rfl) (by rfl) (w' := wn18) (exec_appI _ _ rfl _ _ rfl rfl run) (.inr hs18) ?_
        simp only [List.setIfInBounds_toArray, List.set_cons_zero, List.set_cons_succ]
        clear RR lp run gr lo hs17
        have RR := RR3
        have lp := lp'
        clear RR3 lp'
        obtain ⟨gn, dn, wn19, fv, run, NN, gr, lo, hdn, hf⟩ := copy_nodes wn18 25 b4 H4 pn en g.nodes (NRn.later hs18) sm.2
        have hf2 : ∀ i, i < g.nodes.length → ∃ b o, pn = some ⟨b, o, none⟩ ∧ wn18.cell? ⟨b, o + i * 3 + 2, none⟩ = some (fv i) := fun i hi => (hf i hi).1
        have hsx := hs18
        have npq' : g3 ≠ gn := by have := RR.lt; rcases lo with q | q <;> omega
        replace RR := RR.grown gr (fun e => npq (Option.some.inj e))
        clear npq
        have npq := npq'
        clear npq'
        have nqx' : gn ≠ X := by have := RX.lt; rcases lo with q | q <;> omega
        replace RX := RX.of_block (gr.block _ RX.lt (fun e => nqx (Option.some.inj e).symm))
        clear nqx
        have nqx := nqx'
        clear nqx'
        have lq' : w4.heap.size ≤ gn := by have := hs18.size; rcases lo with q | q <;> omega
        have hs19 := Below.grown hs18 gr hs18.size (fun k e => by cases e; exact lq)
        refine Disk.z_run 7 23 (v := .slice (some ⟨gn, 0, none⟩) g.nodes.length dn) rfl rfl (by kernel_rfl) (by rfl) (w' := wn19) (exec_appN _ _ rfl _ _ rfl rfl run) (.inr hs19) ?_
        simp only [List.setIfInBounds_toArray, List.set_cons_zero, List.set_cons_succ]
        clear H4 lq run gr lo hs18 hf
        have lq := lq'
        clear lq'
        refine Disk.z_take 10 26 (v := .agg #[.slice (some ⟨g3, 0, none⟩) g.roots.length d3, .slice (some ⟨gn, 0, none⟩) g.nodes.length dn, .int .i64 g.hash]) rfl rfl (by kernel_rfl) (by kernel_rfl) (by kernel_rfl) (by kernel_rfl) (by rfl) hs19 (fun W' _ => (by go_simp; first | done | with_reducible rfl)) ?_
        simp only [List.setIfInBounds_toArray, List.set_cons_zero, List.set_cons_succ]
        have run9 := run_store_box wn19 27 27 X 3 #[.slice (some ⟨g3, 0, none⟩) g.roots.length d3, .slice (some ⟨gn, 0, none⟩) g.nodes.length dn, .int .i64 g.hash] _ RX rfl (by kernel_rfl) (by simp [Value.oneCell'])
        have F9 := row_set wn19 X 27 3 #[.slice (some ⟨g3, 0, none⟩) g.roots.length d3, .slice (some ⟨gn, 0, none⟩) g.nodes.length dn, .int .i64 g.hash] _ RX rfl
        have G9 := grown_setRow wn19 X #[.slice (some ⟨g3, 0, none⟩) g.roots.length d3, .slice (some ⟨gn, 0, none⟩) g.nodes.length dn, .int .i64 g.hash]
        have hs9 := Below.grown hs19 G9 hs19.size (fun k e => by cases e; exact lx)
        refine Disk.z_skip 12 (w' := wn19.setRow X #[.slice (some ⟨g3, 0, none⟩) g.roots.length d3, .slice (some ⟨gn, 0, none⟩) g.nodes.length dn, .int .i64 g.hash]) rfl rfl (by kernel_rfl) (by rfl) (exec_store3 rfl rfl rfl run9) (.inr hs9) ?_
        refine Disk.z_done (by kernel_rfl) ?_ _
        exact hQ _ _ g3 d3 gn dn X fv _ _ _ _ _ _ _ _ _ _ _ hs9 hsx (RR.grown G9 (fun e => npx (Option.some.inj e))) hd3 (NN.block (G9.block _ NN.lt (fun e => nqx (Option.some.inj e)))) hdn hf2 (grF_of F9) lp lq lx npq npx nqx
    · obtain ⟨wn20, X, ew, eb, hbt, RX⟩ : ∃ wm X, wm = wn1.alloc (.cells #[.slice none 0 0, .slice none 0 0, .int .i64 0] 27) ∧ X = wn1.heap.size ∧ Below wn1.heap.size wn1 wm ∧ wm.rowIs X 27 3 (fun i => (#[.slice none 0 0, .slice none 0 0, .int .i64 0] : Array Value)[i]?.getD undef) := ⟨_, _, rfl, rfl, bel_one _ _, row_any wn1 #[.slice none 0 0, .slice none 0 0, .int .i64 0] 27⟩
      have npx : b0 ≠ X := by have := RR.lt; omega
      have lx : w4.heap.size ≤ X := by rw [eb]; exact hs1.size
      have hs20 := bel_after hs1 hbt
      refine o_run 11 6 (v := .pointer (some ⟨X, 0, none⟩)) rfl rfl (by rfl) (w' := wn20) (by subst ew; subst eb; go_simp; first | done | with_reducible rfl) (.inr hs20) ?_
      simp only [List.setIfInBounds_toArray, List.set_cons_zero, List.set_cons_succ]
      replace RR := RR.later hbt
      clear ew eb hs1 hbt
      refine z_or (i := 3) (j := 4) (by kernel_rfl) ?_ ?_
      · obtain ⟨g3, d3, wn21, run, RR3, gr, lo, hd3⟩ := run_app_ri wn20 24 b0 0 0 [] rfl RR (Nat.zero_le _) (Nat.zero_le _) pr er g.roots.length g.roots rfl (IRr.later hs20) (by omega)
        rw [Nat.zero_add] at run
        rw [List.nil_append] at RR3
        have npx' : g3 ≠ X := by have := RX.lt; rcases lo with q | q <;> omega
        replace RX := RX.of_block (gr.block _ RX.lt (fun e => npx (Option.some.inj e).symm))
        clear npx
        have npx := npx'
        clear npx'
        have lp' : w4.heap.size ≤ g3 := by have := hs20.size; rcases lo with q | q <;> omega
        have hs21 := Below.grown hs20 gr hs20.size (fun k e => by cases e; exact lp)
        refine o_run 3 19 (v := .slice (some ⟨g3, 0, none⟩) g.roots.length d3) rfl rfl (by rfl) (w' := wn21) (exec_appI _ _ rfl _ _ rfl rfl run) (.inr hs21) ?_
        simp only [List.setIfInBounds_toArray, List.set_cons_zero, List.set_cons_succ]
        clear RR lp run gr lo hs20
        have RR := RR3
        have lp := lp'
        clear RR3 lp'
        obtain ⟨wn22, b4, ew, eb, hbt, H4⟩ : ∃ wm b4, wm = wn21.alloc (.cells #[] 37) ∧ b4 = wn21.heap.size ∧ Below wn21.heap.size wn21 wm ∧ wm.heap[b4]? = some (.cells #[] 37) := ⟨_, _, rfl, rfl, bel_one _ _, heap_alloc_new _ _⟩
        have npq : g3 ≠ b4 := by have := RR.lt; omega
        have nqx : b4 ≠ X := by have := RX.lt; omega
        have lq : w4.heap.size ≤ b4 := by rw [eb]; exact hs21.size
        have hs22 := bel_after hs21 hbt
        refine Disk.z_run 4 20 (v := .slice (some ⟨b4, 0, none⟩) 0 0) rfl rfl (by kernel_rfl) (by rfl) (w' := wn22) (by subst ew; subst eb; go_simp; first | done | with_reducible rfl) (.inr hs22) ?_
        simp only [List.setIfInBounds_toArray, List.set_cons_zero, List.set_cons_succ]
        replace RR := RR.later hbt
        replace RX := RX.of_block (hbt.block _ RX.lt)
        clear ew eb hs21 hbt
        obtain ⟨gn, dn, wn23, fv, run, NN, gr, lo, hdn, hf⟩ := copy_nodes wn22 25 b4 H4 pn en g.nodes (NRn.later hs22) sm.2
        have hf2 : ∀ i, i < g.nodes.length → ∃ b o, pn = some ⟨b, o, none⟩ ∧ wn22.cell? ⟨b, o + i * 3 + 2, none⟩ = some (fv i) := fun i hi => (hf i hi).1
        have hsx := hs22
        have npq' : g3 ≠ gn := by have := RR.lt; rcases lo with q | q <;> omega
        replace RR := RR.grown gr (fun e => npq (Option.some.inj e))
        clear npq
        have npq := npq'
        clear npq'
        have nqx' : gn ≠ X := by have := RX.lt; rcases lo with q | q <;> omega
        replace RX := RX.of_block (gr.block _ RX.lt (fun e => nqx (Option.some.inj e).symm))
        clear nqx
        have nqx := nqx'
        clear nqx'
        have lq' : w4.heap.size ≤ gn := by have := hs22.size; rcases lo with q | q <;> omega
        have hs23 := Below.grown hs22 gr hs22.size (fun k e => by cases e; exact lq)
        refine Disk.z_run 7 23 (v := .slice (some ⟨gn, 0, none⟩) g.nodes.length dn) rfl rfl (by kernel_rfl) (by rfl) (w' := wn23) (exec_appN _ _ rfl _ _ rfl rfl run) (.inr hs23) ?_
        simp only [List.setIfInBounds_toArray, List.set_cons_zero, List.set_cons_succ]
        clear H4 lq run gr lo hs22 hf
        have lq := lq'
        clear lq'
        refine Disk.z_take 10 26 (v := .agg #[.slice (some ⟨g3, 0, none⟩) g.roots.length d3, .slice (some ⟨gn, 0, none⟩) g.nodes.length dn, .int .i64 g.hash]) rfl rfl (by kernel_rfl) (by kernel_rfl) (by kernel_rfl) (by kernel_rfl) (by rfl) hs23 (fun W' _ => (by go_simp; first | done | with_reducible rfl)) ?_
        simp only [List.setIfInBounds_toArray, List.set_cons_zero, List.set_cons_succ]
        have run9 := run_store_box wn23 27 27 X 3 #[.slice (some ⟨g3, 0, none⟩) g.roots.length d3, .slice (some ⟨gn, 0, none⟩) g.nodes.length dn, .int .i64 g.hash] _ RX rfl (by kernel_rfl) (by simp [Value.oneCell'])
        have F9 := row_set wn23 X 27 3 #[.slice (some ⟨g3, 0, none⟩) g.roots.length d3, .slice (some ⟨gn, 0, none⟩) g.nodes.length dn, .int .i64 g.hash] _ RX rfl
        have G9 := grown_setRow wn23 X #[.slice (some ⟨g3, 0, none⟩) g.roots.length d3, .slice (some ⟨gn, 0, none⟩) g.nodes.length dn, .int .i64 g.hash]
        have hs9 := Below.grown hs23 G9 hs23.size (fun k e => by cases e; exact lx)
        refine Disk.z_skip 12 (w' := wn23.setRow X #[.slice (some ⟨g3, 0, none⟩) g.roots.length d3, .slice (some ⟨gn, 0, none⟩) g.nodes.length dn, .int .i64 g.hash]) rfl rfl (by kernel_rfl) (by rfl) (exec_store3 rfl rfl rfl run9) (.inr hs9) ?_
        refine Disk.z_done (by kernel_rfl) ?_ _
        exact hQ _ _ g3 d3 gn dn X fv _ _ _ _ _ _ _ _ _ _ _ hs9 hsx (RR.grown G9 (fun e => npx (Option.some.inj e))) hd3 (NN.block (G9.block _ NN.lt (fun e => nqx (Option.some.inj e)))) hdn hf2 (grF_of F9) lp lq lx npq npx nqx
      · obtain ⟨wn24, b4, ew, eb, hbt, H4⟩ : ∃ wm b4, wm = wn20.alloc (.cells #[] 37) ∧ b4 = wn20.heap.size ∧ Below wn20.heap.size wn20 wm ∧ wm.heap[b4]? = some (.cells #[] 37) := ⟨_, _, rfl, rfl, bel_one _ _, heap_alloc_new _ _⟩
        have npq : b0 ≠ b4 := by have := RR.lt; omega
        have nqx : b4 ≠ X := by have := RX.lt; omega
        have lq : w4.heap.size ≤ b4 := by rw [eb]; exact hs20.size
        have hs24 := bel_after hs20 hbt
        refine o_run 4 20 (v := .slice (some ⟨b4, 0, none⟩) 0 0) rfl rfl (by rfl) (w' := wn24) (by subst ew; subst eb; go_simp; first | done | with_reducible rfl) (.inr hs24) ?_
        simp only [List.setIfInBounds_toArray, List.set_cons_zero, List.set_cons_succ]
        replace RR := RR.later hbt
        replace RX := RX.of_block (hbt.block _ RX.lt)
        clear ew eb hs20 hbt
        obtain ⟨g3, d3, wn25, run, RR3, gr, lo, hd3⟩ := run_app_ri wn24 24 b0 0 0 [] rfl RR (Nat.zero_le _) (Nat.zero_le _) pr er g.roots.length g.roots rfl (IRr.later hs24) (by omega)
        rw [Nat.zero_add] at run
        rw [List.nil_append] at RR3
        have npq' : g3 ≠ b4 := by have := hlt H4; rcases lo with q | q <;> omega
        replace H4 := (gr.block _ (hlt H4) (fun e => npq (Option.some.inj e).symm)).trans H4
        clear npq
        have npq := npq'
        clear npq'
        have npx' : g3 ≠ X := by have := RX.lt; rcases lo with q | q <;> omega
        replace RX := RX.of_block (gr.block _ RX.lt (fun e => npx (Option.some.inj e).symm))
        clear npx
        have npx := npx'
        clear npx'
        have lp' : w4.heap.size ≤ g3 := by have := hs24.size; rcases lo with q | q <;> omega
        have hs25 := Below.grown hs24 gr hs24.size (fun k e => by cases e; exact lp)
        refine Disk.z_run 3 19 (v := .slice (some ⟨g3, 0, none⟩) g.roots.length d3) rfl rfl (by kernel_rfl) (by rfl) (w' := wn25) (exec_appI _ _ rfl _ _ rfl rfl run) (.inr hs25) ?_
        simp only [List.setIfInBounds_toArray, List.set_cons_zero, List.set_cons_succ]
        clear RR lp run gr lo hs24
        have RR := RR3
        have lp := lp'
        clear RR3 lp'
        obtain ⟨gn, dn, wn26, fv, run, NN, gr, lo, hdn, hf⟩ := copy_nodes wn25 25 b4 H4 pn en g.nodes (NRn.later hs25) sm.2
        have hf2 : ∀ i, i < g.nodes.length → ∃ b o, pn = some ⟨b, o, none⟩ ∧ wn25.cell? ⟨b, o + i * 3 + 2, none⟩ = some (fv i) := fun i hi => (hf i hi).1
        have hsx := hs25
        have npq' : g3 ≠ gn := by have := RR.lt; rcases lo with q | q <;> omega
        replace RR := RR.grown gr (fun e => npq (Option.some.inj e))
        clear npq
        have npq := npq'
        clear npq'
        have nqx' : gn ≠ X := by have := RX.lt; rcases lo with q | q <;> omega
        replace RX := RX.of_block (gr.block _ RX.lt (fun e => nqx (Option.some.inj e).symm))
        clear nqx
        have nqx := nqx'
        clear nqx'
        have lq' : w4.heap.size ≤ gn := by have := hs25.size; rcases lo with q | q <;> omega
        have hs26 := Below.grown hs25 gr hs25.size (fun k e => by cases e; exact lq)
        refine Disk.z_run 7 23 (v := .slice (some ⟨gn, 0, none⟩) g.nodes.length dn) rfl rfl (by kernel_rfl) (by rfl) (w' := wn26) (exec_appN _ _ rfl _ _ rfl rfl run) (.inr hs26) ?_
        simp only [List.setIfInBounds_toArray, List.set_cons_zero, List.set_cons_succ]
        clear H4 lq run gr lo hs25 hf
        have lq := lq'
        clear lq'
        refine Disk.z_take 10 26 (v := .agg #[.slice (some ⟨g3, 0, none⟩) g.roots.length d3, .slice (some ⟨gn, 0, none⟩) g.nodes.length dn, .int .i64 g.hash]) rfl rfl (by kernel_rfl) (by kernel_rfl) (by kernel_rfl) (by kernel_rfl) (by rfl) hs26 (fun W' _ => (by go_simp; first | done | with_reducible rfl)) ?_
        simp only [List.setIfInBounds_toArray, List.set_cons_zero, List.set_cons_succ]
        have run9 := run_store_box wn26 27 27 X 3 #[.slice (some ⟨g3, 0, none⟩) g.roots.length d3, .slice (some ⟨gn, 0, none⟩) g.nodes.length dn, .int .i64 g.hash] _ RX rfl (by kernel_rfl) (by simp [Value.oneCell'])
        have F9 := row_set wn26 X 27 3 #[.slice (some ⟨g3, 0, none⟩) g.roots.length d3, .slice (some ⟨gn, 0, none⟩) g.nodes.length dn, .int .i64 g.hash] _ RX rfl
        have G9 := grown_setRow wn26 X #[.slice (some ⟨g3, 0, none⟩) g.roots.length d3, .slice (some ⟨gn, 0, none⟩) g.nodes.length dn, .int .i64 g.hash]
        have hs9 := Below.grown hs26 G9 hs26.size (fun k e => by cases e; exact lx)
        refine Disk.z_skip 12 (w' := wn26.setRow X #[.slice (some ⟨g3, 0, none⟩) g.roots.length d3, .slice (some ⟨gn, 0, none⟩) g.nodes.length dn, .int .i64 g.hash]) rfl rfl (by kernel_rfl) (by rfl) (exec_store3 rfl rfl rfl run9) (.inr hs9) ?_
        refine Disk.z_done (by kernel_rfl) ?_ _
        exact hQ _ _ g3 d3 gn dn X fv _ _ _ _ _ _ _ _ _ _ _ hs9 hsx (RR.grown G9 (fun e => npx (Option.some.inj e))) hd3 (NN.block (G9.block _ NN.lt (fun e => nqx (Option.some.inj e)))) hdn hf2 (grF_of F9) lp lq lx npq npx nqx
  · obtain ⟨wn27, b4, ew, eb, hbt, H4⟩ : ∃ wm b4, wm = wd.alloc (.cells #[] 37) ∧ b4 = wd.heap.size ∧ Below wd.heap.size wd wm ∧ wm.heap[b4]? = some (.cells #[] 37) := ⟨_, _, rfl, rfl, bel_one _ _, heap_alloc_new _ _⟩
    have lq : w4.heap.size ≤ b4 := by rw [eb]; exact hs.size
    have hs27 := bel_after hs hbt
    refine o_run 4 20 (v := .slice (some ⟨b4, 0, none⟩) 0 0) rfl rfl (by rfl) (w' := wn27) (by subst ew; subst eb; go_simp; first | done | with_reducible rfl) (.inr hs27) ?_
    simp only [List.setIfInBounds_toArray, List.set_cons_zero, List.set_cons_succ]
    clear ew eb hs hbt
    refine z_or (i := 0) (j := 11) (by kernel_rfl) ?_ ?_
    · obtain ⟨wn28, b0, ew, eb, hbt, RR⟩ : ∃ wm b0, wm = wn27.alloc (.cells #[] 2) ∧ b0 = wn27.heap.size ∧ Below wn27.heap.size wn27 wm ∧ RI wm b0 [] 0 := ⟨_, _, rfl, rfl, bel_one _ _, ri_none _⟩
      have npq : b0 ≠ b4 := by have := hlt H4; omega
      have lp : w4.heap.size ≤ b0 := by rw [eb]; exact hs27.size
      have hs28 := bel_after hs27 hbt
      refine o_run 0 16 (v := .slice (some ⟨b0, 0, none⟩) 0 0) rfl rfl (by rfl) (w' := wn28) (by subst ew; subst eb; go_simp; first | done | with_reducible rfl) (.inr hs28) ?_
      simp only [List.setIfInBounds_toArray, List.set_cons_zero, List.set_cons_succ]
      replace H4 := (hbt.block _ (hlt H4)).trans H4
      clear ew eb hs27 hbt
      refine z_or (i := 3) (j := 11) (by kernel_rfl) ?_ ?_
      · obtain ⟨g3, d3, wn29, run, RR3, gr, lo, hd3⟩ := run_app_ri wn28 24 b0 0 0 [] rfl RR (Nat.zero_le _) (Nat.zero_le _) pr er g.roots.length g.roots rfl (IRr.later hs28) (by omega)
        rw [Nat.zero_add] at run
        rw [List.nil_append] at RR3
        have npq' : g3 ≠ b4 := by have := hlt H4; rcases lo with q | q <;> omega
        replace H4 := (gr.block _ (hlt H4) (fun e => npq (Option.some.inj e).symm)).trans H4
        clear npq
        have npq := npq'
        clear npq'
        have lp' : w4.heap.size ≤ g3 := by have := hs28.size; rcases lo with q | q <;> omega
        have hs29 := Below.grown hs28 gr hs28.size (fun k e => by cases e; exact lp)
        refine o_run 3 19 (v := .slice (some ⟨g3, 0, none⟩) g.roots.length d3) rfl rfl (by rfl) (w' := wn29) (exec_appI _ _ rfl _ _ rfl rfl run) (.inr hs29) ?_
        simp only [List.setIfInBounds_toArray, List.set_cons_zero, List.set_cons_succ]
        clear RR lp run gr lo hs28
        have RR := RR3
        have lp := lp'
        clear RR3 lp'
        refine z_or (i := 7) (j := 11) (by kernel_rfl) ?_ ?_
        · obtain ⟨gn, dn, wn30, fv, run, NN, gr, lo, hdn, hf⟩ := copy_nodes wn29 25 b4 H4 pn en g.nodes (NRn.later hs29) sm.2
          have hf2 : ∀ i, i < g.nodes.length → ∃ b o, pn = some ⟨b, o, none⟩ ∧ wn29.cell? ⟨b, o + i * 3 + 2, none⟩ = some (fv i) := fun i hi => (hf i hi).1
          have hsx := hs29
          have npq' : g3 ≠ gn := by have := RR.lt; rcases lo with q | q <;> omega
          replace RR := RR.grown gr (fun e => npq (Option.some.inj e))
          clear npq
          have npq := npq'
          clear npq'
          have lq' : w4.heap.size ≤ gn := by have := hs29.size; rcases lo with q | q <;> omega
          have hs30 := Below.grown hs29 gr hs29.size (fun k e => by cases e; exact lq)
          refine o_run 7 23 (v := .slice (some ⟨gn, 0, none⟩) g.nodes.length dn) rfl rfl (by rfl) (w' := wn30) (exec_appN _ _ rfl _ _ rfl rfl run) (.inr hs30) ?_
          simp only [List.setIfInBounds_toArray, List.set_cons_zero, List.set_cons_succ]
          clear H4 lq run gr lo hs29 hf
          have lq := lq'
          clear lq'
          refine Disk.z_take 10 26 (v := .agg #[.slice (some ⟨g3, 0, none⟩) g.roots.length d3, .slice (some ⟨gn, 0, none⟩) g.nodes.length dn, .int .i64 g.hash]) rfl rfl (by kernel_rfl) (by kernel_rfl) (by kernel_rfl) (by kernel_rfl) (by rfl) hs30 (fun W' _ => (by go_simp; first | done | with_reducible rfl)) ?_
          simp only [List.setIfInBounds_toArray, List.set_cons_zero, List.set_cons_succ]
          obtain ⟨wn31, X, ew, eb, hbt, RX⟩ : ∃ wm X, wm = wn30.alloc (.cells #[.slice none 0 0, .slice none 0 0, .int .i64 0] 27) ∧ X = wn30.heap.size ∧ Below wn30.heap.size wn30 wm ∧ wm.rowIs X 27 3 (fun i => (#[.slice none 0 0, .slice none 0 0, .int .i64 0] : Array Value)[i]?.getD undef) := ⟨_, _, rfl, rfl, bel_one _ _, row_any wn30 #[.slice none 0 0, .slice none 0 0, .int .i64 0] 27⟩
          have npx : g3 ≠ X := by have := RR.lt; omega
          have nqx : gn ≠ X := by have := NN.lt; omega
          have lx : w4.heap.size ≤ X := by rw [eb]; exact hs30.size
          have hs31 := bel_after hs30 hbt
          refine Disk.z_run 11 6 (v := .pointer (some ⟨X, 0, none⟩)) rfl rfl (by kernel_rfl) (by rfl) (w' := wn31) (by subst ew; subst eb; go_simp; first | done | with_reducible rfl) (.inr hs31) ?_
          simp only [List.setIfInBounds_toArray, List.set_cons_zero, List.set_cons_succ]
          replace RR := RR.later hbt
          replace NN := NN.block (hbt.block _ NN.lt)
          clear ew eb hs30 hbt
          have run9 := run_store_box wn31 27 27 X 3 #[.slice (some ⟨g3, 0, none⟩) g.roots.length d3, .slice (some ⟨gn, 0, none⟩) g.nodes.length dn, .int .i64 g.hash] _ RX rfl (by kernel_rfl) (by simp [Value.oneCell'])
          have F9 := row_set wn31 X 27 3 #[.slice (some ⟨g3, 0, none⟩) g.roots.length d3, .slice (some ⟨gn, 0, none⟩) g.nodes.length dn, .int .i64 g.hash] _ RX rfl
          have G9 := grown_setRow wn31 X #[.slice (some ⟨g3, 0, none⟩) g.roots.length d3, .slice (some ⟨gn, 0, none⟩) g.nodes.length dn, .int .i64 g.hash]
          have hs9 := Below.grown hs31 G9 hs31.size (fun k e => by cases e; exact lx)
          refine Disk.z_skip 12 (w' := wn31.setRow X #[.slice (some ⟨g3, 0, none⟩) g.roots.length d3, .slice (some ⟨gn, 0, none⟩) g.nodes.length dn, .int .i64 g.hash]) rfl rfl (by kernel_rfl) (by rfl) (exec_store3 rfl rfl rfl run9) (.inr hs9) ?_
          refine Disk.z_done (by kernel_rfl) ?_ _
          exact hQ _ _ g3 d3 gn dn X fv _ _ _ _ _ _ _ _ _ _ _ hs9 hsx (RR.grown G9 (fun e => npx (Option.some.inj e))) hd3 (NN.block (G9.block _ NN.lt (fun e => nqx (Option.some.inj e)))) hdn hf2 (grF_of F9) lp lq lx npq npx nqx
        · obtain ⟨wn32, X, ew, eb, hbt, RX⟩ : ∃ wm X, wm = wn29.alloc (.cells #[.slice none 0 0, .slice none 0 0, .int .i64 0] 27) ∧ X = wn29.heap.size ∧ Below wn29.heap.size wn29 wm ∧ wm.rowIs X 27 3 (fun i => (#[.slice none 0 0, .slice none 0 0, .int .i64 0] : Array Value)[i]?.getD undef) := ⟨_, _, rfl, rfl, bel_one _ _, row_any wn29 #[.slice none 0 0, .slice none 0 0, .int .i64 0] 27⟩
          have npx : g3 ≠ X := by have := RR.lt; omega
          have nqx : b4 ≠ X := by have := hlt H4; omega
          have lx : w4.heap.size ≤ X := by rw [eb]; exact hs29.size
          have hs32 := bel_after hs29 hbt
          refine o_run 11 6 (v := .pointer (some ⟨X, 0, none⟩)) rfl rfl (by rfl) (w' := wn32) (by subst ew; subst eb; go_simp; first | done | with_reducible rfl) (.inr hs32) ?_
          simp only [List.setIfInBounds_toArray, List.set_cons_zero, List.set_cons_succ]
          replace RR := RR.later hbt
          replace H4 := (hbt.block _ (hlt H4)).trans H4
          clear ew eb hs29 hbt
          obtain ⟨gn, dn, wn33, fv, run, NN, gr, lo, hdn, hf⟩ := copy_nodes wn32 25 b4 H4 pn en g.nodes (NRn.later hs32) sm.2
          have hf2 : ∀ i, i < g.nodes.length → ∃ b o, pn = some ⟨b, o, none⟩ ∧ wn32.cell? ⟨b, o + i * 3 + 2, none⟩ = some (fv i) := fun i hi => (hf i hi).1
          have hsx := hs32
          have npq' : g3 ≠ gn := by have := RR.lt; rcases lo with q | q <;> omega
          replace RR := RR.grown gr (fun e => npq (Option.some.inj e))
          clear npq
          have npq := npq'
          clear npq'
          have nqx' : gn ≠ X := by have := RX.lt; rcases lo with q | q <;> omega
          replace RX := RX.of_block (gr.block _ RX.lt (fun e => nqx (Option.some.inj e).symm))
          clear nqx
          have nqx := nqx'
          clear nqx'
          have lq' : w4.heap.size ≤ gn := by have := hs32.size; rcases lo with q | q <;> omega
          have hs33 := Below.grown hs32 gr hs32.size (fun k e => by cases e; exact lq)
          refine Disk.z_run 7 23 (v := .slice (some ⟨gn, 0, none⟩) g.nodes.length dn) rfl rfl (by kernel_rfl) (by rfl) (w' := wn33) (exec_appN _ _ rfl _ _ rfl rfl run) (.inr hs33) ?_
          simp only [List.setIfInBounds_toArray, List.set_cons_zero, List.set_cons_succ]
          clear H4 lq run gr lo hs32 hf
          have lq := lq'
          clear lq'
          refine Disk.z_take 10 26 (v := .agg #[.slice (some ⟨g3, 0, none⟩) g.roots.length d3, .slice (some ⟨gn, 0, none⟩) g.nodes.length dn, .int .i64 g.hash]) rfl rfl (by kernel_rfl) (by kernel_rfl) (by kernel_rfl) (by kernel_rfl) (by rfl) hs33 (fun W' _ => (by go_simp; first | done | with_reducible rfl)) ?_
          simp only [List.setIfInBounds_toArray, List.set_cons_zero, List.set_cons_succ]
          have run9 := run_store_box wn33 27 27 X 3 #[.slice (some ⟨g3, 0, none⟩) g.roots.length d3, .slice (some ⟨gn, 0, none⟩) g.nodes.length dn, .int .i64 g.hash] _ RX rfl (by kernel_rfl) (by simp [Value.oneCell'])
          have F9 := row_set wn33 X 27 3 #[.slice (some ⟨g3, 0, none⟩) g.roots.length d3, .slice (some ⟨gn, 0, none⟩) g.nodes.length dn, .int .i64 g.hash] _ RX rfl
          have G9 := grown_setRow wn33 X #[.slice (some ⟨g3, 0, none⟩) g.roots.length d3, .slice (some ⟨gn, 0, none⟩) g.nodes.length dn, .int .i64 g.hash]
          have hs9 := Below.grown hs33 G9 hs33.size (fun k e => by cases e; exact lx)
          refine Disk.z_skip 12 (w' := wn33.setRow X #[.slice (some ⟨g3, 0, none⟩) g.roots.length d3, .slice (some ⟨gn, 0, none⟩) g.nodes.length dn, .int .i64 g.hash]) rfl rfl (by kernel_rfl) (by rfl) (exec_store3 rfl rfl rfl run9) (.inr hs9) ?_
          refine Disk.z_done (by kernel_rfl) ?_ _
          exact hQ _ _ g3 d3 gn dn X fv _ _ _ _ _ _ _ _ _ _ _ hs9 hsx (RR.grown G9 (fun e => npx (Option.some.inj e))) hd3 (NN.block (G9.block _ NN.lt (fun e => nqx (Option.some.inj e)))) hdn hf2 (grF_of F9) lp lq lx npq npx nqx
      · obtain ⟨wn34, X, ew, eb, hbt, RX⟩ : ∃ wm X, wm = wn28.alloc (.cells #[.slice none 0 0, .slice none 0 0, .int .i64 0] 27) ∧ X = wn28.heap.size ∧ Below wn28.heap.size wn28 wm ∧ wm.rowIs X 27 3 (fun i => (#[.slice none 0 0, .slice none 0 0, .int .i64 0] : Array Value)[i]?.getD undef) := ⟨_, _, rfl, rfl, bel_one _ _, row_any wn28 #[.slice none 0 0, .slice none 0 0, .int .i64 0] 27⟩
        have npx : b0 ≠ X := by have := RR.lt; omega
        have nqx : b4 ≠ X := by have := hlt H4; omega
        have lx : w4.heap.size ≤ X := by rw [eb]; exact hs28.size
        have hs34 := bel_after hs28 hbt
        refine o_run 11 6 (v := .pointer (some ⟨X, 0, none⟩)) rfl rfl (by rfl) (w' := wn34) (by subst ew; subst eb; go_simp; first | done | with_reducible rfl) (.inr hs34) ?_
        simp only [List.setIfInBounds_toArray, List.set_cons_zero, List.set_cons_succ]
        replace RR := RR.later hbt
        replace H4 := (hbt.block _ (hlt H4)).trans H4
        clear ew eb hs28 hbt
        obtain ⟨g3, d3, wn35, run, RR3, gr, lo, hd3⟩ := run_app_ri wn34 24 b0 0 0 [] rfl RR (Nat.zero_le _) (Nat.zero_le _) pr er g.roots.length g.roots rfl (IRr.later hs34) (by omega)
        rw [Nat.zero_add] at run
        rw [List.nil_append] at RR3
        have npq' : g3 ≠ b4 := by have := hlt H4; rcases lo with q | q <;> omega
        replace H4 := (gr.block _ (hlt H4) (fun e => npq (Option.some.inj e).symm)).trans H4
        clear npq
        have npq := npq'
        clear npq'
        have npx' : g3 ≠ X := by have := RX.lt; rcases lo with q | q <;> omega
        replace RX := RX.of_block (gr.block _ RX.lt (fun e => npx (Option.some.inj e).symm))
        clear npx
        have npx := npx'
        clear npx'
        have lp' : w4.heap.size ≤ g3 := by have := hs34.size; rcases lo with q | q <;> omega
        have hs35 := Below.grown hs34 gr hs34.size (fun k e => by cases e; exact lp)
        refine Disk.z_run 3 19 (v := .slice (some ⟨g3, 0, none⟩) g.roots.length d3) rfl rfl (by kernel_rfl) (by rfl) (w' := wn35) (exec_appI _ _ rfl _ _ rfl rfl run) (.inr hs35) ?_
        simp only [List.setIfInBounds_toArray, List.set_cons_zero, List.set_cons_succ]
        clear RR lp run gr lo hs34
        have RR := RR3
        have lp := lp'
        clear RR3 lp'
        obtain ⟨gn, dn, wn36, fv, run, NN, gr, lo, hdn, hf⟩ := copy_nodes wn35 25 b4 H4 pn en g.nodes (NRn.later hs35) sm.2
        have hf2 : ∀ i, i < g.nodes.length → ∃ b o, pn = some ⟨b, o, none⟩ ∧ wn35.cell? ⟨b, o + i * 3 + 2, none⟩ = some (fv i) := fun i hi => (hf i hi).1
        have hsx := hs35
        have npq' : g3 ≠ gn := by have := RR.lt; rcases lo with q | q <;> omega
        replace RR := RR.grown gr (fun e => npq (Option.some.inj e))
        clear npq
        have npq := npq'
        clear npq'
        have nqx' : gn ≠ X := by have := RX.lt; rcases lo with q | q <;> omega
        replace RX := RX.of_block (gr.block _ RX.lt (fun e => nqx (Option.some.inj e).symm))
        clear nqx
        have nqx := nqx'
        clear nqx'
        have lq' : w4.heap.size ≤ gn := by have := hs35.size; rcases lo with q | q <;> omega
        have hs36 := Below.grown hs35 gr hs35.size (fun k e => by cases e; exact lq)
        refine Disk.z_run 7 23 (v := .slice (some ⟨gn, 0, none⟩) g.nodes.length dn) rfl rfl (by kernel_rfl) (by rfl) (w' := wn36) (exec_appN _ _ rfl _ _ rfl rfl run) (.inr hs36) ?_
        simp only [List.setIfInBounds_toArray, List.set_cons_zero, List.set_cons_succ]
        clear H4 lq run gr lo hs35 hf
        have lq := lq'
        clear lq'
        refine Disk.z_take 10 26 (v := .agg #[.slice (some ⟨g3, 0, none⟩) g.roots.length d3, .slice (some ⟨gn, 0, none⟩) g.nodes.length dn, .int .i64 g.hash]) rfl rfl (by kernel_rfl) (by kernel_rfl) (by kernel_rfl) (by kernel_rfl) (by rfl) hs36 (fun W' _ => (by go_simp; first | done | with_reducible rfl)) ?_
        simp only [List.setIfInBounds_toArray, List.set_cons_zero, List.set_cons_succ]
        have run9 := run_store_box wn36 27 27 X 3 #[.slice (some ⟨g3, 0, none⟩) g.roots.length d3, .slice (some ⟨gn, 0, none⟩) g.nodes.length dn, .int .i64 g.hash] _ RX rfl (by kernel_rfl) (by simp [Value.oneCell'])
        have F9 := row_set wn36 X 27 3 #[.slice (some ⟨g3, 0, none⟩) g.roots.length d3, .slice (some ⟨gn, 0, none⟩) g.nodes.length dn, .int .i64 g.hash] _ RX rfl
        have G9 := grown_setRow wn36 X #[.slice (some ⟨g3, 0, none⟩) g.roots.length d3, .slice (some ⟨gn, 0, none⟩) g.nodes.length dn, .int .i64 g.hash]
        have hs9 := Below.grown hs36 G9 hs36.size (fun k e => by cases e; exact lx)
        refine Disk.z_skip 12 (w' := wn36.setRow X #[.slice (some ⟨g3, 0, none⟩) g.roots.length d3, .slice (some ⟨gn, 0, none⟩) g.nodes.length dn, .int .i64 g.hash]) rfl rfl (by kernel_rfl) (by rfl) (exec_store3 rfl rfl rfl run9) (.inr hs9) ?_
        refine Disk.z_done (by kernel_rfl) ?_ _
        exact hQ _ _ g3 d3 gn dn X fv _ _ _ _ _ _ _ _ _ _ _ hs9 hsx (RR.grown G9 (fun e => npx (Option.some.inj e))) hd3 (NN.block (G9.block _ NN.lt (fun e => nqx (Option.some.inj e)))) hdn hf2 (grF_of F9) lp lq lx npq npx nqx
    · obtain ⟨wn37, X, ew, eb, hbt, RX⟩ : ∃ wm X, wm = wn27.alloc (.cells #[.slice none 0 0, .slice none 0 0, .int .i64 0] 27) ∧ X = wn27.heap.size ∧ Below wn27.heap.size wn27 wm ∧ wm.rowIs X 27 3 (fun i => (#[.slice none 0 0, .slice none 0 0, .int .i64 0] : Array Value)[i]?.getD undef) := ⟨_, _, rfl, rfl, bel_one _ _, row_any wn27 #[.slice none 0 0, .slice none 0 0, .int .i64 0] 27⟩
      have nqx : b4 ≠ X := by have := hlt H4; omega
      have lx : w4.heap.size ≤ X := by rw [eb]; exact hs27.size
      have hs37 := bel_after hs27 hbt
      refine o_run 11 6 (v := .pointer (some ⟨X, 0, none⟩)) rfl rfl (by rfl) (w' := wn37) (by subst ew; subst eb; go_simp; first | done | with_reducible rfl) (.inr hs37) ?_
      simp only [List.setIfInBounds_toArray, List.set_cons_zero, List.set_cons_succ]
      replace H4 := (hbt.block _ (hlt H4)).trans H4
      clear ew eb hs27 hbt
      obtain ⟨wn38, b0, ew, eb, hbt, RR⟩ : ∃ wm b0, wm = wn37.alloc (.cells #[] 2) ∧ b0 = wn37.heap.size ∧ Below wn37.heap.size wn37 wm ∧ RI wm b0 [] 0 := ⟨_, _, rfl, rfl, bel_one _ _, ri_none _⟩
      have npq : b0 ≠ b4 := by have := hlt H4; omega
      have npx : b0 ≠ X := by have := RX.lt; omega
      have lp : w4.heap.size ≤ b0 := by rw [eb]; exact hs37.size
      have hs38 := bel_after hs37 hbt
      refine Disk.z_run 0 16 (v := .slice (some ⟨b0, 0, none⟩) 0 0) rfl rfl (by kernel_rfl) (by rfl) (w' := wn38) (by subst ew; subst eb; go_simp; first | done | with_reducible rfl) (.inr hs38) ?_
      simp only [List.setIfInBounds_toArray, List.set_cons_zero, List.set_cons_succ]
      replace H4 := (hbt.block _ (hlt H4)).trans H4
      replace RX := RX.of_block (hbt.block _ RX.lt)
      clear ew eb hs37 hbt
      obtain ⟨g3, d3, wn39, run, RR3, gr, lo, hd3⟩ := run_app_ri wn38 24 b0 0 0 [] rfl RR (Nat.zero_le _) (Nat.zero_le _) pr er g.roots.length g.roots rfl (IRr.later hs38) (by omega)
      rw [Nat.zero_add] at run
      rw [List.nil_append] at RR3
      have npq' : g3 ≠ b4 := by have := hlt H4; rcases lo with q | q <;> omega
      replace H4 := (gr.block _ (hlt H4) (fun e => npq (Option.some.inj e).symm)).trans H4
      clear npq
      have npq := npq'
      clear npq'
      have npx' : g3 ≠ X := by have := RX.lt; rcases lo with q | q <;> omega
      replace RX := RX.of_block (gr.block _ RX.lt (fun e => npx (Option.some.inj e).symm))
      clear npx
      have npx := npx'
      clear npx'
      have lp' : w4.heap.size ≤ g3 := by have := hs38.size; rcases lo with q | q <;> omega
      have hs39 := Below.grown hs38 gr hs38.size (fun k e => by cases e; exact lp)
      refine Disk.z_run 3 19 (v := .slice (some ⟨g3, 0, none⟩) g.roots.length d3) rfl rfl (by kernel_rfl) (by rfl) (w' := wn39) (exec_appI _ _ rfl _ _ rfl rfl run) (.inr hs39) ?_
      simp only [List.setIfInBounds_toArray, List.set_cons_zero, List.set_cons_succ]
      clear RR lp run gr lo hs38
      have RR := RR3
      have lp := lp'
      clear RR3 lp'
      obtain ⟨gn, dn, wn40, fv, run, NN, gr, lo, hdn, hf⟩ := copy_nodes wn39 25 b4 H4 pn en g.nodes (NRn.later hs39) sm.2
      have hf2 : ∀ i, i < g.nodes.length → ∃ b o, pn = some ⟨b, o, none⟩ ∧ wn39.cell? ⟨b, o + i * 3 + 2, none⟩ = some (fv i) := fun i hi => (hf i hi).1
      have hsx := hs39
      have npq' : g3 ≠ gn := by have := RR.lt; rcases lo with q | q <;> omega
      replace RR := RR.grown gr (fun e => npq (Option.some.inj e))
      clear npq
      have npq := npq'
      clear npq'
      have nqx' : gn ≠ X := by have := RX.lt; rcases lo with q | q <;> omega
      replace RX := RX.of_block (gr.block _ RX.lt (fun e => nqx (Option.some.inj e).symm))
      clear nqx
      have nqx := nqx'
      clear nqx'
      have lq' : w4.heap.size ≤ gn := by have := hs39.size; rcases lo with q | q <;> omega
      have hs40 := Below.grown hs39 gr hs39.size (fun k e => by cases e; exact lq)
      refine Disk.z_run 7 23 (v := .slice (some ⟨gn, 0, none⟩) g.nodes.length dn) rfl rfl (by kernel_rfl) (by rfl) (w' := wn40) (exec_appN _ _ rfl _ _ rfl rfl run) (.inr hs40) ?_
      simp only [List.setIfInBounds_toArray, List.set_cons_zero, List.set_cons_succ]
      clear H4 lq run gr lo hs39 hf
      have lq := lq'
      clear lq'
      refine Disk.z_take 10 26 (v := .agg #[.slice (some ⟨g3, 0, none⟩) g.roots.length d3, .slice (some ⟨gn, 0, none⟩) g.nodes.length dn, .int .i64 g.hash]) rfl rfl (by kernel_rfl) (by kernel_rfl) (by kernel_rfl) (by kernel_rfl) (by rfl) hs40 (fun W' _ => (by go_simp; first | done | with_reducible rfl)) ?_
      simp only [List.setIfInBounds_toArray, List.set_cons_zero, List.set_cons_succ]
      have run9 := run_store_box wn40 27 27 X 3 #[.slice (some ⟨g3, 0, none⟩) g.roots.length d3, .slice (some ⟨gn, 0, none⟩) g.nodes.length dn, .int .i64 g.hash] _ RX rfl (by kernel_rfl) (by simp [Value.oneCell'])
      have F9 := row_set wn40 X 27 3 #[.slice (some ⟨g3, 0, none⟩) g.roots.length d3, .slice (some ⟨gn, 0, none⟩) g.nodes.length dn, .int .i64 g.hash] _ RX rfl
      have G9 := grown_setRow wn40 X #[.slice (some ⟨g3, 0, none⟩) g.roots.length d3, .slice (some ⟨gn, 0, none⟩) g.nodes.length dn, .int .i64 g.hash]
      have hs9 := Below.grown hs40 G9 hs40.size (fun k e => by cases e; exact lx)
      refine Disk.z_skip 12 (w' := wn40.setRow X #[.slice (some ⟨g3, 0, none⟩) g.roots.length d3, .slice (some ⟨gn, 0, none⟩) g.nodes.length dn, .int .i64 g.hash]) rfl rfl (by kernel_rfl) (by rfl) (exec_store3 rfl rfl rfl run9) (.inr hs9) ?_
      refine Disk.z_done (by kernel_rfl) ?_ _
      exact hQ _ _ g3 d3 gn dn X fv _ _ _ _ _ _ _ _ _ _ _ hs9 hsx (RR.grown G9 (fun e => npx (Option.some.inj e))) hd3 (NN.block (G9.block _ NN.lt (fun e => nqx (Option.some.inj e)))) hdn hf2 (grF_of F9) lp lq lx npq npx nqx
  · obtain ⟨wn41, X, ew, eb, hbt, RX⟩ : ∃ wm X, wm = wd.alloc (.cells #[.slice none 0 0, .slice none 0 0, .int .i64 0] 27) ∧ X = wd.heap.size ∧ Below wd.heap.size wd wm ∧ wm.rowIs X 27 3 (fun i => (#[.slice none 0 0, .slice none 0 0, .int .i64 0] : Array Value)[i]?.getD undef) := ⟨_, _, rfl, rfl, bel_one _ _, row_any wd #[.slice none 0 0, .slice none 0 0, .int .i64 0] 27⟩
    have lx : w4.heap.size ≤ X := by rw [eb]; exact hs.size
    have hs41 := bel_after hs hbt
    refine o_run 11 6 (v := .pointer (some ⟨X, 0, none⟩)) rfl rfl (by rfl) (w' := wn41) (by subst ew; subst eb; go_simp; first | done | with_reducible rfl) (.inr hs41) ?_
    simp only [List.setIfInBounds_toArray, List.set_cons_zero, List.set_cons_succ]
    clear ew eb hs hbt
    refine z_or (i := 0) (j := 4) (by kernel_rfl) ?_ ?_
    · obtain ⟨wn42, b0, ew, eb, hbt, RR⟩ : ∃ wm b0, wm = wn41.alloc (.cells #[] 2) ∧ b0 = wn41.heap.size ∧ Below wn41.heap.size wn41 wm ∧ RI wm b0 [] 0 := ⟨_, _, rfl, rfl, bel_one _ _, ri_none _⟩
      have npx : b0 ≠ X := by have := RX.lt; omega
      have lp : w4.heap.size ≤ b0 := by rw [eb]; exact hs41.size
      have hs42 := bel_after hs41 hbt
      refine o_run 0 16 (v := .slice (some ⟨b0, 0, none⟩) 0 0) rfl rfl (by rfl) (w' := wn42) (by subst ew; subst eb; go_simp; first | done | with_reducible rfl) (.inr hs42) ?_
      simp only [List.setIfInBounds_toArray, List.set_cons_zero, List.set_cons_succ]
      replace RX := RX.of_block (hbt.block _ RX.lt)
      clear ew eb hs41 hbt
      refine z_or (i := 3) (j := 4) (by kernel_rfl) ?_ ?_
      · obtain ⟨g3, d3, wn43, run, RR3, gr, lo, hd3⟩ := run_app_ri wn42 24 b0 0 0 [] rfl RR (Nat.zero_le _) (Nat.zero_le _) pr er g.roots.length g.roots rfl (IRr.later hs42) (by omega)
        rw [Nat.zero_add] at run
        rw [List.nil_append] at RR3
        have npx' : g3 ≠ X := by have := RX.lt; rcases lo with q | q <;> omega
        replace RX := RX.of_block (gr.block _ RX.lt (fun e => npx (Option.some.inj e).symm))
        clear npx
        have npx := npx'
        clear npx'
        have lp' : w4.heap.size ≤ g3 := by have := hs42.size; rcases lo with q | q <;> omega
        have hs43 := Below.grown hs42 gr hs42.size (fun k e => by cases e; exact lp)
        refine o_run 3 19 (v := .slice (some ⟨g3, 0, none⟩) g.roots.length d3) rfl rfl (by rfl) (w' := wn43) (exec_appI _ _ rfl _ _ rfl rfl run) (.inr hs43) ?_
        simp only [List.setIfInBounds_toArray, List.set_cons_zero, List.set_cons_succ]
        clear RR lp run gr lo hs42
        have RR := RR3
        have lp := lp'
        clear RR3 lp'
        obtain ⟨wn44, b4, ew, eb, hbt, H4⟩ : ∃ wm b4, wm = wn43.alloc (.cells #[] 37) ∧ b4 = wn43.heap.size ∧ Below wn43.heap.size wn43 wm ∧ wm.heap[b4]? = some (.cells #[] 37) := ⟨_, _, rfl, rfl, bel_one _ _, heap_alloc_new _ _⟩
        have npq : g3 ≠ b4 := by have := RR.lt; omega
        have nqx : b4 ≠ X := by have := RX.lt; omega
        have lq : w4.heap.size ≤ b4 := by rw [eb]; exact hs43.size
        have hs44 := bel_after hs43 hbt
        refine Disk.z_run 4 20 (v := .slice (some ⟨b4, 0, none⟩) 0 0) rfl rfl (by kernel_rfl) (by rfl) (w' := wn44) (by subst ew; subst eb; go_simp; first | done | with_reducible rfl) (.inr hs44) ?_
        simp only [List.setIfInBounds_toArray, List.set_cons_zero, List.set_cons_succ]
        replace RR := RR.later hbt
        replace RX := RX.of_block (hbt.block _ RX.lt)
        clear ew eb hs43 hbt
        obtain ⟨gn, dn, wn45, fv, run, NN, gr, lo, hdn, hf⟩ := copy_nodes wn44 25 b4 H4 pn en g.nodes (NRn.later hs44) sm.2
        have hf2 : ∀ i, i < g.nodes.length → ∃ b o, pn = some ⟨b, o, none⟩ ∧ wn44.cell? ⟨b, o + i * 3 + 2, none⟩ = some (fv i) := fun i hi => (hf i hi).1
        have hsx := hs44
        have npq' : g3 ≠ gn := by have := RR.lt; rcases lo with q | q <;> omega
        replace RR := RR.grown gr (fun e => npq (Option.some.inj e))
        clear npq
        have npq := npq'
        clear npq'
        have nqx' : gn ≠ X := by have := RX.lt; rcases lo with q | q <;> omega
        replace RX := RX.of_block (gr.block _ RX.lt (fun e => nqx (Option.some.inj e).symm))
        clear nqx
        have nqx := nqx'
        clear nqx'
        have lq' : w4.heap.size ≤ gn := by have := hs44.size; rcases lo with q | q <;> omega
        have hs45 := Below.grown hs44 gr hs44.size (fun k e => by cases e; exact lq)
        refine Disk.z_run 7 23 (v := .slice (some ⟨gn, 0, none⟩) g.nodes.length dn) rfl rfl (by kernel_rfl) (by rfl) (w' := wn45) (exec_appN _ _ rfl _ _ rfl rfl run) (.inr hs45) ?_
        simp only [List.setIfInBounds_toArray, List.set_cons_zero, List.set_cons_succ]
        clear H4 lq run gr lo hs44 hf
        have lq := lq'
        clear lq'
        refine Disk.z_take 10 26 (v := .agg #[.slice (some ⟨g3, 0, none⟩) g.roots.length d3, .slice (some ⟨gn, 0, none⟩) g.nodes.length dn, .int .i64 g.hash]) rfl rfl (by kernel_rfl) (by kernel_rfl) (by kernel_rfl) (by kernel_rfl) (by rfl) hs45 (fun W' _ => (by go_simp; first | done | with_reducible rfl)) ?_
        simp only [List.setIfInBounds_toArray, List.set_cons_zero, List.set_cons_succ]
        have run9 := run_store_box wn45 27 27 X 3 #[.slice (some ⟨g3, 0, none⟩) g.roots.length d3, .slice (some ⟨gn, 0, none⟩) g.nodes.length dn, .int .i64 g.hash] _ RX rfl (by kernel_rfl) (by simp [Value.oneCell'])
        have F9 := row_set wn45 X 27 3 #[.slice (some ⟨g3, 0, none⟩) g.roots.length d3, .slice (some ⟨gn, 0, none⟩) g.nodes.length dn, .int .i64 g.hash] _ RX rfl
        have G9 := grown_setRow wn45 X #[.slice (some ⟨g3, 0, none⟩) g.roots.length d3, .slice (some ⟨gn, 0, none⟩) g.nodes.length dn, .int .i64 g.hash]
        have hs9 := Below.grown hs45 G9 hs45.size (fun k e => by cases e; exact lx)
        refine Disk.z_skip 12 (w' := wn45.setRow X #[.slice (some ⟨g3, 0, none⟩) g.roots.length d3, .slice (some ⟨gn, 0, none⟩) g.nodes.length dn, .int .i64 g.hash]) rfl rfl (by kernel_rfl) (by rfl) (exec_store3 rfl rfl rfl run9) (.inr hs9) ?_
        refine Disk.z_done (by kernel_rfl) ?_ _
        exact hQ _ _ g3 d3 gn dn X fv _ _ _ _ _ _ _ _ _ _ _ hs9 hsx (RR.grown G9 (fun e => npx (Option.some.inj e))) hd3 (NN.block (G9.block _ NN.lt (fun e => nqx (Option.some.inj e)))) hdn hf2 (grF_of F9) lp lq lx npq npx nqx
      · obtain ⟨wn46, b4, ew, eb, hbt, H4⟩ : ∃ wm b4, wm = wn42.alloc (.cells #[] 37) ∧ b4 = wn42.heap.size ∧ Below wn42.heap.size wn42 wm ∧ wm.heap[b4]? = some (.cells #[] 37) := ⟨_, _, rfl, rfl, bel_one _ _, heap_alloc_new _ _⟩
        have npq : b0 ≠ b4 := by have := RR.lt; omega
        have nqx : b4 ≠ X := by have := RX.lt; omega
        have lq : w4.heap.size ≤ b4 := by rw [eb]; exact hs42.size
        have hs46 := bel_after hs42 hbt
        refine o_run 4 20 (v := .slice (some ⟨b4, 0, none⟩) 0 0) rfl rfl (by rfl) (w' := wn46) (by subst ew; subst eb; go_simp; first | done | with_reducible rfl) (.inr hs46) ?_
        simp only [List.setIfInBounds_toArray, List.set_cons_zero, List.set_cons_succ]
        replace RR := RR.later hbt
        replace RX := RX.of_block (hbt.block _ RX.lt)
        clear ew eb hs42 hbt
        obtain ⟨g3, d3, wn47, run, RR3, gr, lo, hd3⟩ := run_app_ri wn46 24 b0 0 0 [] rfl RR (Nat.zero_le _) (Nat.zero_le _) pr er g.roots.length g.roots rfl (IRr.later hs46) (by omega)
        rw [Nat.zero_add] at run
        rw [List.nil_append] at RR3
        have npq' : g3 ≠ b4 := by have := hlt H4; rcases lo with q | q <;> omega
        replace H4 := (gr.block _ (hlt H4) (fun e => npq (Option.some.inj e).symm)).trans H4
        clear npq
        have npq := npq'
        clear npq'
        have npx' : g3 ≠ X := by have := RX.lt; rcases lo with q | q <;> omega
        replace RX := RX.of_block (gr.block _ RX.lt (fun e => npx (Option.some.inj e).symm))
        clear npx
        have npx := npx'
        clear npx'
        have lp' : w4.heap.size ≤ g3 := by have := hs46.size; rcases lo with q | q <;> omega
        have hs47 := Below.grown hs46 gr hs46.size (fun k e => by cases e; exact lp)
        refine Disk.z_run 3 19 (v := .slice (some ⟨g3, 0, none⟩) g.roots.length d3) rfl rfl (by kernel_rfl) (by rfl) (w' := wn47) (exec_appI _ _ rfl _ _ rfl rfl run) (.inr hs47) ?_
        simp only [List.setIfInBounds_toArray, List.set_cons_zero, List.set_cons_succ]
        clear RR lp run gr lo hs46
        have RR := RR3
        have lp := lp'
        clear RR3 lp'
        obtain ⟨gn, dn, wn48, fv, run, NN, gr, lo, hdn, hf⟩ := copy_nodes wn47 25 b4 H4 pn en g.nodes (NRn.later hs47) sm.2
        have hf2 : ∀ i, i < g.nodes.length → ∃ b o, pn = some ⟨b, o, none⟩ ∧ wn47.cell? ⟨b, o + i * 3 + 2, none⟩ = some (fv i) := fun i hi => (hf i hi).1
        have hsx := hs47
        have npq' : g3 ≠ gn := by have := RR.lt; rcases lo with q | q <;> omega
        replace RR := RR.grown gr (fun e => npq (Option.some.inj e))
        clear npq
        have npq := npq'
        clear npq'
        have nqx' : gn ≠ X := by have := RX.lt; rcases lo with q | q <;> omega
        replace RX := RX.of_block (gr.block _ RX.lt (fun e => nqx (Option.some.inj e).symm))
        clear nqx
        have nqx := nqx'
        clear nqx'
        have lq' : w4.heap.size ≤ gn := by have := hs47.size; rcases lo with q | q <;> omega
        have hs48 := Below.grown hs47 gr hs47.size (fun k e => by cases e; exact lq)
        refine Disk.z_run 7 23 (v := .slice (some ⟨gn, 0, none⟩) g.nodes.length dn) rfl rfl (by kernel_rfl) (by rfl) (w' := wn48) (exec_appN _ _ rfl _ _ rfl rfl run) (.inr hs48) ?_
        simp only [List.setIfInBounds_toArray, List.set_cons_zero, List.set_cons_succ]
        clear H4 lq run gr lo hs47 hf
        have lq := lq'
        clear lq'
        refine Disk.z_take 10 26 (v := .agg #[.slice (some ⟨g3, 0, none⟩) g.roots.length d3, .slice (some ⟨gn, 0, none⟩) g.nodes.length dn, .int .i64 g.hash]) rfl rfl (by kernel_rfl) (by kernel_rfl) (by kernel_rfl) (by kernel_rfl) (by rfl) hs48 (fun W' _ => (by go_simp; first | done | with_reducible rfl)) ?_
        simp only [List.setIfInBounds_toArray, List.set_cons_zero, List.set_cons_succ]
        have run9 := run_store_box wn48 27 27 X 3 #[.slice (some ⟨g3, 0, none⟩) g.roots.length d3, .slice (some ⟨gn, 0, none⟩) g.nodes.length dn, .int .i64 g.hash] _ RX rfl (by kernel_rfl) (by simp [Value.oneCell'])
        have F9 := row_set wn48 X 27 3 #[.slice (some ⟨g3, 0, none⟩) g.roots.length d3, .slice (some ⟨gn, 0, none⟩) g.nodes.length dn, .int .i64 g.hash] _ RX rfl
        have G9 := grown_setRow wn48 X #[.slice (some ⟨g3, 0, none⟩) g.roots.length d3, .slice (some ⟨gn, 0, none⟩) g.nodes.length dn, .int .i64 g.hash]
        have hs9 := Below.grown hs48 G9 hs48.size (fun k e => by cases e; exact lx)
        refine Disk.z_skip 12 (w' := wn48.setRow X #[.slice (some ⟨g3, 0, none⟩) g.roots.length d3, .slice (some ⟨gn, 0, none⟩) g.nodes.length dn, .int .i64 g.hash]) rfl rfl (by kernel_rfl) (by rfl) (exec_store3 rfl rfl rfl run9) (.inr hs9) ?_
        refine Disk.z_done (by kernel_rfl) ?_ _
        exact hQ _ _ g3 d3 gn dn X fv _ _ _ _ _ _ _ _ _ _ _ hs9 hsx (RR.grown G9 (fun e => npx (Option.some.inj e))) hd3 (NN.block (G9.block _ NN.lt (fun e => nqx (Option.some.inj e)))) hdn hf2 (grF_of F9) lp lq lx npq npx nqx
    · obtain ⟨wn49, b4, ew, eb, hbt, H4⟩ : ∃ wm b4, wm = wn41.alloc (.cells #[] 37) ∧ b4 = wn41.heap.size ∧ Below wn41.heap.size wn41 wm ∧ wm.heap[b4]? = some (.cells #[] 37) := ⟨_, _, rfl, rfl, bel_one _ _, heap_alloc_new _ _⟩
      have nqx : b4 ≠ X := by have := RX.lt; omega
      have lq : w4.heap.size ≤ b4 := by rw [eb]; exact hs41.size
      have hs49 := bel_after hs41 hbt
      refine o_run 4 20 (v := .slice (some ⟨b4, 0, none⟩) 0 0) rfl rfl (by rfl) (w' := wn49) (by subst ew; subst eb; go_simp; first | done | with_reducible rfl) (.inr hs49) ?_
      simp only [List.setIfInBounds_toArray, List.set_cons_zero, List.set_cons_succ]
      replace RX := RX.of_block (hbt.block _ RX.lt)
      clear ew eb hs41 hbt
      obtain ⟨wn50, b0, ew, eb, hbt, RR⟩ : ∃ wm b0, wm = wn49.alloc (.cells #[] 2) ∧ b0 = wn49.heap.size ∧ Below wn49.heap.size wn49 wm ∧ RI wm b0 [] 0 := ⟨_, _, rfl, rfl, bel_one _ _, ri_none _⟩
      have npq : b0 ≠ b4 := by have := hlt H4; omega
      have npx : b0 ≠ X := by have := RX.lt; omega
      have lp : w4.heap.size ≤ b0 := by rw [eb]; exact hs49.size
      have hs50 := bel_after hs49 hbt
      refine Disk.z_run 0 16 (v := .slice (some ⟨b0, 0, none⟩) 0 0) rfl rfl (by kernel_rfl) (by rfl) (w' := wn50) (by subst ew; subst eb; go_simp; first | done | with_reducible rfl) (.inr hs50) ?_
      simp only [List.setIfInBounds_toArray, List.set_cons_zero, List.set_cons_succ]
      replace H4 := (hbt.block _ (hlt H4)).trans H4
      replace RX := RX.of_block (hbt.block _ RX.lt)
      clear ew eb hs49 hbt
      obtain ⟨g3, d3, wn51, run, RR3, gr, lo, hd3⟩ := run_app_ri wn50 24 b0 0 0 [] rfl RR (Nat.zero_le _) (Nat.zero_le _) pr er g.roots.length g.roots rfl (IRr.later hs50) (by omega)
      rw [Nat.zero_add] at run
      rw [List.nil_append] at RR3
      have npq' : g3 ≠ b4 := by have := hlt H4; rcases lo with q | q <;> omega
      replace H4 := (gr.block _ (hlt H4) (fun e => npq (Option.some.inj e).symm)).trans H4
      clear npq
      have npq := npq'
      clear npq'
      have npx' : g3 ≠ X := by have := RX.lt; rcases lo with q | q <;> omega
      replace RX := RX.of_block (gr.block _ RX.lt (fun e => npx (Option.some.inj e).symm))
      clear npx
      have npx := npx'
      clear npx'
      have lp' : w4.heap.size ≤ g3 := by have := hs50.size; rcases lo with q | q <;> omega
      have hs51 := Below.grown hs50 gr hs50.size (fun k e => by cases e; exact lp)
      refine Disk.z_run 3 19 (v := .slice (some ⟨g3, 0, none⟩) g.roots.length d3) rfl rfl (by kernel_rfl) (by rfl) (w' := wn51) (exec_appI _ _ rfl _ _ rfl rfl run) (.inr hs51) ?_
      simp only [List.setIfInBounds_toArray, List.set_cons_zero, List.set_cons_succ]
      clear RR lp run gr lo hs50
      have RR := RR3
      have lp := lp'
      clear RR3 lp'
      obtain ⟨gn, dn, wn52, fv, run, NN, gr, lo, hdn, hf⟩ := copy_nodes wn51 25 b4 H4 pn en g.nodes (NRn.later hs51) sm.2
      have hf2 : ∀ i, i < g.nodes.length → ∃ b o, pn = some ⟨b, o, none⟩ ∧ wn51.cell? ⟨b, o + i * 3 + 2, none⟩ = some (fv i) := fun i hi => (hf i hi).1
      have hsx := hs51
      have npq' : g3 ≠ gn := by have := RR.lt; rcases lo with q | q <;> omega
      replace RR := RR.grown gr (fun e => npq (Option.some.inj e))
      clear npq
      have npq := npq'
      clear npq'
      have nqx' : gn ≠ X := by have := RX.lt; rcases lo with q | q <;> omega
      replace RX := RX.of_block (gr.block _ RX.lt (fun e => nqx (Option.some.inj e).symm))
      clear nqx
      have nqx := nqx'
      clear nqx'
      have lq' : w4.heap.size ≤ gn := by have := hs51.size; rcases lo with q | q <;> omega
      have hs52 := Below.grown hs51 gr hs51.size (fun k e => by cases e; exact lq)
      refine Disk.z_run 7 23 (v := .slice (some ⟨gn, 0, none⟩) g.nodes.length dn) rfl rfl (by kernel_rfl) (by rfl) (w' := wn52) (exec_appN _ _ rfl _ _ rfl rfl run) (.inr hs52) ?_
      simp only [List.setIfInBounds_toArray, List.set_cons_zero, List.set_cons_succ]
      clear H4 lq run gr lo hs51 hf
      have lq := lq'
      clear lq'
      refine Disk.z_take 10 26 (v := .agg #[.slice (some ⟨g3, 0, none⟩) g.roots.length d3, .slice (some ⟨gn, 0, none⟩) g.nodes.length dn, .int .i64 g.hash]) rfl rfl (by kernel_rfl) (by kernel_rfl) (by kernel_rfl) (by kernel_rfl) (by rfl) hs52 (fun W' _ => (by go_simp; first | done | with_reducible rfl)) ?_
      simp only [List.setIfInBounds_toArray, List.set_cons_zero, List.set_cons_succ]
      have run9 := run_store_box wn52 27 27 X 3 #[.slice (some ⟨g3, 0, none⟩) g.roots.length d3, .slice (some ⟨gn, 0, none⟩) g.nodes.length dn, .int .i64 g.hash] _ RX rfl (by kernel_rfl) (by simp [Value.oneCell'])
      have F9 := row_set wn52 X 27 3 #[.slice (some ⟨g3, 0, none⟩) g.roots.length d3, .slice (some ⟨gn, 0, none⟩) g.nodes.length dn, .int .i64 g.hash] _ RX rfl
      have G9 := grown_setRow wn52 X #[.slice (some ⟨g3, 0, none⟩) g.roots.length d3, .slice (some ⟨gn, 0, none⟩) g.nodes.length dn, .int .i64 g.hash]
      have hs9 := Below.grown hs52 G9 hs52.size (fun k e => by cases e; exact lx)
      refine Disk.z_skip 12 (w' := wn52.setRow X #[.slice (some ⟨g3, 0, none⟩) g.roots.length d3, .slice (some ⟨gn, 0, none⟩) g.nodes.length dn, .int .i64 g.hash]) rfl rfl (by kernel_rfl) (by rfl) (exec_store3 rfl rfl rfl run9) (.inr hs9) ?_
      refine Disk.z_done (by kernel_rfl) ?_ _
      exact hQ _ _ g3 d3 gn dn X fv _ _ _ _ _ _ _ _ _ _ _ hs9 hsx (RR.grown G9 (fun e => npx (Option.some.inj e))) hd3 (NN.block (G9.block _ NN.lt (fun e => nqx (Option.some.inj e)))) hdn hf2 (grF_of F9) lp lq lx npq npx nqx

end Go.Proofs.YtboiknllmnfipaaDoor

/- Two graphs drawn: the second is a copy of the first in which something may be changed. -/
namespace Go.Proofs.YtboiknllmnfipaaDoor
open Go.RowKit

theorem gr_set2 {w : World} {b t : Nat} {rv nv : Value} {hh : Int} (h : w.rowIs b t 3 (grF rv nv hh)) (u : Int) : (w.setCell ⟨b, 2, none⟩ (.int .i64 u)).rowIs b t 3 (grF rv nv u) :=
  World.rowIs.congr (h.set 2 (.int .i64 u)) (fun i hi => by match i, hi with | 0, _ => rfl | 1, _ => rfl | 2, _ => rfl)
structure SC (w w1 w4 : World) (N : Nat) (cv : Value) (cs : List UInt8) (A : Nat) (rv nv : Value) (g : Gr) (W : World) (X : Nat) (rs : List Int) (g3 d3 : Nat) (ns : List Nd) (gn dn : Nat) (fv : Nat → Value) (hh : Int) : Prop where
  k : SG w w1 N cv cs A w4 rv nv g
  dw : Dw N cv cs W
  gr : w1.grownBy W (some N)
  same : ∀ b, b < w4.heap.size → b ≠ N → W.heap[b]? = w4.heap[b]?
  ri : RI W g3 rs d3
  nn : NRow W gn ns fv
  rx : W.rowIs X 27 3 (grF (.slice (some ⟨g3, 0, none⟩) rs.length d3) (.slice (some ⟨gn, 0, none⟩) ns.length dn) hh)
  fl : ∀ i, i < ns.length → IR w4 (fv i) (ns.getD i nd0).fl ∧ LowG w1.heap.size (fv i)
  hd : d3 ≤ maxLen
  hdn : ns.length ≤ dn
  l3 : w4.heap.size ≤ g3
  ln : w4.heap.size ≤ gn
  lx : w4.heap.size ≤ X
  n1 : g3 ≠ gn
  n2 : g3 ≠ X
  n3 : gn ≠ X
  sb : Gsb ⟨rs, ns, hh⟩
section
variable {w w1 w4 : World} {N : Nat} {cv : Value} {cs : List UInt8} {A : Nat} {rv nv : Value} {g : Gr} {W : World} {X : Nat} {rs : List Int} {g3 d3 : Nat} {ns : List Nd} {gn dn : Nat} {fv : Nat → Value} {hh : Int}
theorem SC.start {Wx : World} {pn : Option Addr} {en : Nat} (k : SG w w1 N cv cs A w4 rv (.slice pn g.nodes.length en) g) (hb : Below w4.heap.size w4 W) (hx : Below w4.heap.size w4 Wx) (ri : RI W g3 g.roots d3) (hd : d3 ≤ maxLen) (nn : NRow W gn g.nodes fv) (hdn : g.nodes.length ≤ dn)
    (hf : ∀ i, i < g.nodes.length → ∃ b o, pn = some ⟨b, o, none⟩ ∧ Wx.cell? ⟨b, o + i * 3 + 2, none⟩ = some (fv i)) (rx : W.rowIs X 27 3 (grF (.slice (some ⟨g3, 0, none⟩) g.roots.length d3) (.slice (some ⟨gn, 0, none⟩) g.nodes.length dn) g.hash))
    (l3 : w4.heap.size ≤ g3) (ln : w4.heap.size ≤ gn) (lx : w4.heap.size ≤ X) (n1 : g3 ≠ gn) (n2 : g3 ≠ X) (n3 : gn ≠ X) : SC w w1 w4 N cv cs A rv (.slice pn g.nodes.length en) g W X g.roots g3 d3 g.nodes gn dn fv g.hash := by
  have kl := k.later hb
  refine ⟨k, kl.dw, kl.gr, fun b h _ => hb.block b h, ri, nn, rx, ?_, hd, hdn, l3, ln, lx, n1, n2, n3, k.sm.b⟩
  obtain ⟨rv', nv', e, ir, lr, h⟩ := k.ga
  simp only [Value.agg.injEq, Array.mk.injEq, List.cons.injEq, and_true] at e
  obtain ⟨rfl, rfl⟩ := e
  rcases h with ⟨e0, _⟩ | ⟨nb, nc, fa, e1, hn, hB, lf, hc⟩
  · intro i hi
    rw [e0] at hi
    simp at hi
  · intro i hi
    obtain ⟨b, o, e2, c2⟩ := hf i hi
    subst e2
    simp only [Value.slice.injEq, Option.some.injEq, Addr.mk.injEq, true_and, and_true] at e1
    obtain ⟨⟨rfl, rfl⟩, rfl⟩ := e1
    obtain ⟨M, f, R, hM, r⟩ := hn.row
    have c3 := cell_later hx (R.cell (i := i * 3 + 2) (by omega))
    rw [Nat.zero_add, c3, (r i hi).2.2] at c2
    have e3 : fa i = fv i := Option.some.inj c2
    rw [← e3]
    exact ⟨hn.fl i hi, lf i hi⟩
theorem SC.hN (c : SC w w1 w4 N cv cs A rv nv g W X rs g3 d3 ns gn dn fv hh) : N < w4.heap.size := Nat.lt_of_lt_of_le c.k.hN c.k.gr.size
theorem SC.lt (c : SC w w1 w4 N cv cs A rv nv g W X rs g3 d3 ns gn dn fv hh) : N < W.heap.size := Nat.lt_of_lt_of_le c.k.hN c.gr.size
theorem SC.step {W' : World} (c : SC w w1 w4 N cv cs A rv nv g W X rs g3 d3 ns gn dn fv hh) (s : Sx W N cv cs W') : SC w w1 w4 N cv cs A rv nv g W' X rs g3 d3 ns gn dn fv hh := by
  have hN := c.hN
  have l3 := c.l3
  have ln := c.ln
  have lx := c.lx
  refine ⟨c.k, s.2, gtrans c.gr s.1, fun b h1 h2 => ?_, c.ri.grown s.1 (fun e => by have := Option.some.inj e; omega), c.nn.block (s.1.block _ c.nn.lt (fun e => by have := Option.some.inj e; omega)), c.rx.of_block (s.1.block _ c.rx.lt (fun e => by have := Option.some.inj e; omega)), c.fl, c.hd, c.hdn, l3, ln, lx, c.n1, c.n2, c.n3, c.sb⟩
  refine (s.1.block b ?_ (fun e => h2 (Option.some.inj e))).trans (c.same b h1 h2)
  have := c.same b h1 h2
  rw [Array.getElem?_eq_getElem h1] at this
  exact hlt this
/-- What stays through a write into one of its own blocks. -/
theorem SC.put {W' : World} {b : Nat} (c : SC w w1 w4 N cv cs A rv nv g W X rs g3 d3 ns gn dn fv hh) (q : W.grownBy W' (some b)) (hb : w4.heap.size ≤ b) : Dw N cv cs W' ∧ w1.grownBy W' (some N) ∧ ∀ i, i < w4.heap.size → i ≠ N → W'.heap[i]? = w4.heap[i]? := by
  have hN := c.hN
  have hs := c.k.gr.size
  have G : w1.grownBy W' (some N) := gmix c.gr q (fun k e => by cases e; omega)
  refine ⟨c.k.d1.grown G c.dw q (fun e => by have := Option.some.inj e; omega) c.lt, G, fun i h1 h2 => ?_⟩
  refine (q.block i ?_ (fun e => by have := Option.some.inj e; omega)).trans (c.same i h1 h2)
  have := c.same i h1 h2
  rw [Array.getElem?_eq_getElem h1] at this
  exact hlt this
theorem SC.fin (c : SC w w1 w4 N cv cs A rv nv g W X rs g3 d3 ns gn dn fv hh) : SG w w1 N cv cs A W rv nv g ∧ GAt w1.heap.size W (.agg #[.slice (some ⟨g3, 0, none⟩) rs.length d3, .slice (some ⟨gn, 0, none⟩) ns.length dn, .int .i64 hh]) ⟨rs, ns, hh⟩ := by
  have hr := c.k.hr
  have hN := c.k.hN
  have hA := c.k.hA
  have hs := c.k.gr.size
  obtain ⟨f1, R1⟩ := c.k.r1
  obtain ⟨f2, R2⟩ := c.k.r2
  have kp : ∀ b, w1.heap.size ≤ b → b < w4.heap.size → W.heap[b]? = w4.heap[b]? := fun b h1 h2 => c.same b h2 (by omega)
  refine ⟨⟨c.dw, c.k.d1, c.gr, c.k.bw, hr, hN, ⟨f1, R1.of_block (c.same _ R1.lt (by omega))⟩, ⟨f2, R2.of_block (c.same _ R2.lt (by omega))⟩, hA, c.k.box.of_block (kp _ hA c.k.box.lt), c.k.ga.keep kp, c.k.sm⟩, ?_⟩
  refine GAt.of (fv := fv) (c.ri.ir c.ri.le) (fun a n q e _ => ?_) ⟨c.nn, fun i hi => (c.fl i hi).1.keepG (c.fl i hi).2 kp⟩ (Nat.le_trans hs c.ln) (fun i hi => (c.fl i hi).2) c.hdn
  simp only [Value.slice.injEq, Option.some.injEq] at e
  obtain ⟨rfl, _⟩ := e
  show w1.heap.size ≤ g3
  have := c.l3
  omega
theorem SC.hash (c : SC w w1 w4 N cv cs A rv nv g W X rs g3 d3 ns gn dn fv hh) (x : Int) : SC w w1 w4 N cv cs A rv nv g (W.setCell ⟨X, 2, none⟩ (.int .i64 x)) X rs g3 d3 ns gn dn fv x := by
  have q := Disk.grown_set W X 2 (.int .i64 x)
  obtain ⟨p1, p2, p3⟩ := c.put q c.lx
  exact ⟨c.k, p1, p2, p3, c.ri.grown q (fun e => c.n2 (Option.some.inj e)), c.nn.block (q.block _ c.nn.lt (fun e => c.n3 (Option.some.inj e))), gr_set2 c.rx x, c.fl, c.hd, c.hdn, c.l3, c.ln, c.lx, c.n1, c.n2, c.n3, c.sb⟩
theorem SC.root {W' : World} {g5 d5 : Nat} {x : Int} (c : SC w w1 w4 N cv cs A rv nv g W X rs g3 d3 ns gn dn fv hh) (m : Nat) (hm : m = rs.length + 1) (hl : rs.length ≤ 1000) (ri : RI W' g5 (rs ++ [x]) d5) (q : W.grownBy W' (some g3)) (lo : g5 = g3 ∨ (g5 = W.heap.size ∧ W.heap.size < W'.heap.size)) (hd : d5 ≤ maxLen) :
    SC w w1 w4 N cv cs A rv nv g (W'.setCell ⟨X, 0, none⟩ (.slice (some ⟨g5, 0, none⟩) m d5)) X (rs ++ [x]) g5 d5 ns gn dn fv hh := by
  obtain rfl : m = (rs ++ [x]).length := by rw [hm, List.length_append]; rfl
  have ltn := c.nn.lt
  have ltx := c.rx.lt
  have n1 := c.n1
  have n2 := c.n2
  have l3 := c.l3
  have sz := c.ri.lt
  have e1 : g5 ≠ gn := by rcases lo with q | q <;> omega
  have e2 : g5 ≠ X := by rcases lo with q | q <;> omega
  have e3 : w4.heap.size ≤ g5 := by rcases lo with q | q <;> omega
  have rx := c.rx.of_block (q.block _ ltx (fun e => n2 (Option.some.inj e).symm))
  have nn := c.nn.block (q.block _ ltn (fun e => n1 (Option.some.inj e).symm))
  have q2 := Disk.grown_set W' X 0 (.slice (some ⟨g5, 0, none⟩) (rs ++ [x]).length d5)
  have hN := c.hN
  have hs := c.k.gr.size
  have lx := c.lx
  obtain ⟨p1, p2, p3⟩ := c.put q l3
  have G : w1.grownBy (W'.setCell ⟨X, 0, none⟩ (.slice (some ⟨g5, 0, none⟩) (rs ++ [x]).length d5)) (some N) := gmix p2 q2 (fun k e => by cases e; omega)
  refine ⟨c.k, c.k.d1.grown G p1 q2 (fun e => by have := Option.some.inj e; omega) (by have := p2.size; have := c.k.hN; omega), G, fun i h1 h2 => ?_, ri.grown q2 (fun e => e2 (Option.some.inj e)), nn.block (q2.block _ nn.lt (fun e => c.n3 (Option.some.inj e))), grF_set0 rx, c.fl, hd, c.hdn, e3, c.ln, lx, e1, e2, c.n3, ?_⟩
  · refine (q2.block i ?_ (fun e => by have := Option.some.inj e; omega)).trans (p3 i h1 h2)
    have := p3 i h1 h2
    rw [Array.getElem?_eq_getElem h1] at this
    exact hlt this
  · exact ⟨by show (rs ++ [x]).length ≤ 2000; rw [List.length_append]; simp; omega, c.sb.2⟩
theorem SC.cls {x : Int} (c : SC w w1 w4 N cv cs A rv nv g W X rs g3 d3 ns gn dn fv hh) (hi : 0 < ns.length) (hx : g64 x) :
    SC w w1 w4 N cv cs A rv nv g (W.setCell ⟨gn, 0, none⟩ (.int .i64 x)) X rs g3 d3 (ns.set 0 { ns.getD 0 nd0 with cls := x }) gn dn fv hh := by
  have q := Disk.grown_set W gn 0 (.int .i64 x)
  obtain ⟨p1, p2, p3⟩ := c.put q c.ln
  have el : (ns.set 0 { ns.getD 0 nd0 with cls := x }).length = ns.length := List.length_set
  have rx := c.rx.of_block (q.block _ c.rx.lt (fun e => c.n3 (Option.some.inj e).symm))
  rw [← el] at rx
  refine ⟨c.k, p1, p2, p3, c.ri.grown q (fun e => c.n1 (Option.some.inj e)), ?_, rx, fun j hj => ?_, c.hd, by rw [el]; exact c.hdn, c.l3, c.ln, c.lx, c.n1, c.n2, c.n3, c.sb.1, by show (ns.set 0 _).length ≤ 10000; rw [el]; exact c.sb.2.1, fun n hn' => ?_⟩
  · obtain ⟨M, f, R, hM, r⟩ := c.nn
    refine ⟨M, _, R.set 0 (.int .i64 x), by rw [el]; exact hM, fun j hj => ?_⟩
    rw [el] at hj
    have r' := r j hj
    by_cases e : j = 0
    · subst e
      have e2 : (ns.set 0 { ns.getD 0 nd0 with cls := x }).getD 0 nd0 = { ns.getD 0 nd0 with cls := x } := by simp [List.getD_eq_getElem?_getD, hj]
      rw [e2]
      refine ⟨by rw [if_pos rfl], ?_, ?_⟩
      · rw [if_neg (by omega)]; exact r'.2.1
      · rw [if_neg (by omega)]; exact r'.2.2
    · have e2 : (ns.set 0 { ns.getD 0 nd0 with cls := x }).getD j nd0 = ns.getD j nd0 := by simp [List.getD_eq_getElem?_getD, Ne.symm e]
      rw [e2]
      refine ⟨?_, ?_, ?_⟩
      · rw [if_neg (by omega)]; exact r'.1
      · rw [if_neg (by omega)]; exact r'.2.1
      · rw [if_neg (by omega)]; exact r'.2.2
  · rw [el] at hj
    have e2 : ((ns.set 0 { ns.getD 0 nd0 with cls := x }).getD j nd0).fl = (ns.getD j nd0).fl := by
      by_cases e : j = 0
      · subst e
        simp [List.getD_eq_getElem?_getD, hj]
      · simp [List.getD_eq_getElem?_getD, Ne.symm e]
    rw [e2]
    exact c.fl j hj
  · rcases List.mem_or_eq_of_mem_set (show n ∈ ns.set 0 { ns.getD 0 nd0 with cls := x } from hn') with r | rfl
    · exact c.sb.2.2 n r
    · have o := c.sb.2.2 (ns.getD 0 nd0) (by simp [hi])
      exact ⟨⟨hx, o.1.2.1, o.1.2.2⟩, o.2⟩
end

end Go.Proofs.YtboiknllmnfipaaDoor

/- Two graphs drawn: the draw DrawSameGraph of the model, both of its turns. -/
namespace Go.Proofs.YtboiknllmnfipaaDoor
open Go.RowKit

section
variable {ops : Array Oper} {rest : List Oper} {o : Oper} {a : Act} {Q : Exit → Act → World → Prop}
theorem store_qG {w w' : World} {t : TypeId} {A u : Value} (hrun : (Instr.storeAt t A u).run Tryd.prog w = .ok () w') (hg : o.guard = none) (p s : Operand) (hop : o.op = Op.store t p s) (hp : a.eval p = A) (hs : a.eval s = u) (hd : o.dst = none)
    (h : wpList Tryd.prog ops Q rest a w') : wpList Tryd.prog ops Q (o :: rest) a w := by
  refine wpList_plain hg fun K hK => ?_
  unfold Oper.wp
  simp [execOp, hop, hp, hs, hrun, Result.andThen]
  refine hK _ _ ?_
  rw [hd]
  exact h
theorem app_runG {w w' : World} {v y u : Value} (hg : o.guard = none) (s x : Operand) (ho : o.op = .call { callee := .builtin .append, args := #[s, x], argTypes := #[24, 24] }) (hs : a.eval s = v) (hx : a.eval x = y)
    (hrun : (Builtin.append_ #[24, 24] o.type #[v, y]).run Tryd.prog w = .ok u w') (h : wpList Tryd.prog ops Q rest (a.put o.dst u) w') : wpList Tryd.prog ops Q (o :: rest) a w := by
  refine wpList_plain hg fun K hK => ?_
  unfold Oper.wp
  simp [execOp, ho, resolve, invoke, builtin, hs, hx, hrun, Result.andThen]
  exact hK _ _ h
end
theorem store_oneG {w : World} {b j : Nat} {v : Int} {u : Value} (hf : w.frozen? ⟨b, j, none⟩ = false) (hc : w.cell? ⟨b, j, none⟩ = some u) : (Instr.storeAt 2 (.pointer (some ⟨b, j, none⟩)) (.int .i64 v)).run Tryd.prog w = .ok () (w.setCell ⟨b, j, none⟩ (.int .i64 v)) := by
  go_simp
theorem store_sliG {w : World} {b j n c : Nat} {a : Option Addr} {u : Value} (hf : w.frozen? ⟨b, j, none⟩ = false) (hc : w.cell? ⟨b, j, none⟩ = some u) : (Instr.storeAt 24 (.pointer (some ⟨b, j, none⟩)) (.slice a n c)).run Tryd.prog w = .ok () (w.setCell ⟨b, j, none⟩ (.slice a n c)) := by
  go_simp
theorem Sx.alloc {W : World} {N : Nat} {cv : Value} {cs : List UInt8} (d : Dw N cv cs W) (hN : N < W.heap.size) (o : Obj) : Sx W N cv cs (W.alloc o) := (Sx.refl d).more (bel_one W o) hN
theorem g64_wrap (z : Int) : g64 (wrap64 z) := by
  unfold g64
  unfold wrap64
  omega
theorem SC.cls0 {w w1 w4 : World} {N : Nat} {cv : Value} {cs : List UInt8} {A : Nat} {rv nv : Value} {g : Gr} {W : World} {X : Nat} {rs : List Int} {g3 d3 : Nat} {ns : List Nd} {gn dn : Nat} {fv : Nat → Value} {hh : Int} (c : SC w w1 w4 N cv cs A rv nv g W X rs g3 d3 ns gn dn fv hh) (h0 : 0 < ns.length) : ∃ y : Int, W.cell? ⟨gn, 0, none⟩ = some (.int .i64 y) ∧ W.frozen? ⟨gn, 0, none⟩ = false := by
  obtain ⟨M, f, R, hM, r⟩ := c.nn
  have r0 := (r 0 h0).1
  exact ⟨_, by rw [R.cell (i := 0) (by omega)]; exact congrArg some r0, R.frozen 0⟩

set_option maxRecDepth 100000 in
set_option maxHeartbeats 6400000 in
theorem drawSameGraph_any (cv : Value) (cs : List UInt8) (w : World) (hc : BR w cv cs) (hn : cs.length ≤ 4096) :
    Calls Tryd.prog 5 #[cv] w fun x w' => DrawnGG w x w' := by
  have hmx : Tryd.prog.follows .mixedOrders = true := by kernel_rfl
  have al1 := bel_one w (.cells #[.slice none 0 0, .slice none 0 0, .int .i64 0] 27)
  have al2 := bel_one (w.alloc (.cells #[.slice none 0 0, .slice none 0 0, .int .i64 0] 27)) (.cells #[.slice none 0 0, .slice none 0 0, .int .i64 0] 27)
  have h0 := bel_after al1 al2
  have R1 := row_any w #[.slice none 0 0, .slice none 0 0, .int .i64 0] 27
  have R2 := row_any (w.alloc (.cells #[.slice none 0 0, .slice none 0 0, .int .i64 0] 27)) #[.slice none 0 0, .slice none 0 0, .int .i64 0] 27
  rw [World.size_alloc] at R2
  have R1' := R1.of_block (al2.block _ R1.lt)
  have NW := l1New_any cv cs _ (hc.later h0) hn
  have z0 : ((w.alloc (.cells #[.slice none 0 0, .slice none 0 0, .int .i64 0] 27)).alloc (.cells #[.slice none 0 0, .slice none 0 0, .int .i64 0] 27)).heap.size = w.heap.size + 2 := by simp
  go_enter Tryd.func5, Tryd.ntmps5
  go_wp2_with fail
  refine NW.mono ?_
  rintro x w1 ⟨N, rfl, hN, hN1, hb1, d1⟩
  clear NW
  rw [z0] at hN
  have Q1 := R1'.of_block (hb1.block _ (by rw [z0]; omega))
  have Q2 := R2.of_block (hb1.block _ (by rw [z0]; omega))
  have bw := bel_after h0 hb1
  clear al1 al2 h0 R1 R2 R1' hb1 z0
  go_wp2_with fail
  refine (d1.graph hN1).mono ?_
  rintro x w2 ⟨⟨v, g, rfl, ga, sm⟩, g2, d2⟩
  obtain ⟨pr, er, pn, en, rfl, -, -⟩ := id ga.gr.out
  have al := bel_one w2 (.cells #[.slice pr g.roots.length er, .slice pn g.nodes.length en, .int .i64 g.hash] 27)
  have s2 := g2.size
  have K0 : SG w w1 N cv cs w2.heap.size (w2.alloc (.cells #[.slice pr g.roots.length er, .slice pn g.nodes.length en, .int .i64 g.hash] 27)) (.slice pr g.roots.length er) (.slice pn g.nodes.length en) g :=
    ⟨d2.more al (by omega), d1, gtrans g2 ⟨al.os, al.tape, al.output, al.size, fun b h1 _ => al.block b h1⟩, bw, by omega, hN1,
      ⟨_, (Q1.of_block (g2.block _ Q1.lt (fun e => by have := Option.some.inj e; omega))).of_block (al.block _ (by have := Q1.lt; omega))⟩, ⟨_, (Q2.of_block (g2.block _ Q2.lt (fun e => by have := Option.some.inj e; omega))).of_block (al.block _ (by have := Q2.lt; omega))⟩, s2, graphC w2 _ _ _ _, ga.later al, sm⟩
  clear ga g2 d2 al sm Q1 Q2 bw d1 s2 hN hN1
  go_wp2_with fail
  refine (K0.dw.once 4 (by omega) (by omega)).mono ?_
  rintro x w4 ⟨⟨bo, rfl⟩, g4, d4⟩
  have K1 := K0.step ⟨g4, d4⟩
  generalize w2.heap.size = A at *
  clear K0 g4 d4
  cases bo
  · skip
    obtain ⟨pr2, er2, pn2, en2, e2, ir, nr⟩ := id K1.ga.gr.out
    simp only [Value.agg.injEq, Array.mk.injEq, List.cons.injEq, Value.slice.injEq, true_and, and_true] at e2
    obtain ⟨⟨rfl, rfl⟩, rfl, rfl⟩ := e2
    have CXf : ∀ W, Below w4.heap.size w4 W → W.cell? ⟨A, 0, none⟩ = some (.slice pr g.roots.length er) ∧ W.cell? ⟨A, 1, none⟩ = some (.slice pn g.nodes.length en) ∧ W.cell? ⟨A, 2, none⟩ = some (.int .i64 g.hash) := fun W hb => gr3_cells (K1.later hb).box
    have hr0 : g.roots.length ≤ 1000 := K1.sm.1
    go_wp2_with fail
    refine greg5 CXf ir nr ⟨K1.sm.1, K1.sm.2.1⟩ _ _ _ _ _ _ _ _ _ _ _ _ _ _ _ _ _ _ _ _ _ _ _ _ _ _ _ _ _ _ _ _ _ _ _ _ _ _ _ _ _ _ _ _ _ _ _ _ _ _ _ _ _ _ _ _ _ _ _ _ _ ?_
    intro W Wx g3 d3 gn dn X fv a16 a17 a18 a19 a20 a21 a22 a23 a24 a25 a26 hb hbx RR hd3 NN hdn hf RX l3 ln lx n1 n2 n3
    have C0 := SC.start K1 hb hbx RR hd3 NN hdn hf RX l3 ln lx n1 n2 n3
    clear K1 hb hbx RR hd3 NN hdn hf RX l3 ln lx n1 n2 n3 CXf ir nr
    go_wp2_with fail
    refine (C0.dw.once 2 (by omega) (by omega)).mono ?_
    rintro x w6 ⟨⟨b6, rfl⟩, g6, d6⟩
    have C1 := C0.step ⟨g6, d6⟩
    clear C0 g6 d6
    cases b6
    · have CD := C1.step (Sx.refl C1.dw).drew
      have SBB : Hid _ := C1.sb
      clear C1
      go_wp2_with fail
      refine Disk.z_plain 99 (fun W' => W'.rowIs A 27 3 (grF (.slice pr g.roots.length er) (.slice pn g.nodes.length en) g.hash) ∧ W'.rowIs X 27 3 (grF (.slice (some ⟨g3, 0, none⟩) g.roots.length d3) (.slice (some ⟨gn, 0, none⟩) g.nodes.length dn) (g.hash))) hmx ⟨CD.fin.1.box, CD.rx⟩ (fun hs => ?_)
      generalize w6.drew = wd at hs CD ⊢
      refine Disk.z_take 0 60 (v := .agg #[.slice pr g.roots.length er, .slice pn g.nodes.length en, .int .i64 g.hash]) rfl rfl (by kernel_rfl) (by kernel_rfl) (by kernel_rfl) (by kernel_rfl) (by rfl) hs (fun W' hSw => (by
        obtain ⟨s0, s1, s2⟩ := gr3_cells hSw.1
        go_simp; first | done | with_reducible rfl)) ?_
      simp only [List.setIfInBounds_toArray, List.set_cons_zero, List.set_cons_succ]
      refine Disk.z_take 1 61 (v := .agg #[.slice (some ⟨g3, 0, none⟩) g.roots.length d3, .slice (some ⟨gn, 0, none⟩) g.nodes.length dn, .int .i64 g.hash]) rfl rfl (by kernel_rfl) (by kernel_rfl) (by kernel_rfl) (by kernel_rfl) (by rfl) hs (fun W' hSw => (by
        obtain ⟨s0, s1, s2⟩ := gr3_cells hSw.2
        go_simp; first | done | with_reducible rfl)) ?_
      simp only [List.setIfInBounds_toArray, List.set_cons_zero, List.set_cons_succ]
      obtain ⟨Kq, gu⟩ := CD.fin
      obtain ⟨f1, R1⟩ := Kq.r1
      obtain ⟨f2, R2⟩ := Kq.r2
      have hr := Kq.hr
      have hNN := Kq.hN
      have hAA := Kq.hA
      have hXX : w1.heap.size ≤ X := Nat.le_trans CD.k.gr.size CD.lx
      obtain ⟨w9, run9, F9, G9⟩ := store_run3 wd w.heap.size #[.slice pr g.roots.length er, .slice pn g.nodes.length en, .int .i64 g.hash] f1 R1 rfl (by simp [Value.oneCell'])
      have R2' := R2.of_block (G9.block _ R2.lt (fun e => by have := Option.some.inj e; omega))
      obtain ⟨w10, run10, F10, G10⟩ := store_run3 w9 (w.heap.size + 1) #[.slice (some ⟨g3, 0, none⟩) g.roots.length d3, .slice (some ⟨gn, 0, none⟩) g.nodes.length dn, .int .i64 g.hash] f2 R2' rfl (by simp [Value.oneCell'])
      have F9' := F9.of_block (G10.block _ F9.lt (fun e => by have := Option.some.inj e; omega))
      have bx9 := Kq.box.of_block (G9.block _ Kq.box.lt (fun e => by have := Option.some.inj e; omega))
      have bX9 := CD.rx.of_block (G9.block _ CD.rx.lt (fun e => by have := Option.some.inj e; omega))
      refine Disk.z_skip 2 (w' := w9) rfl rfl (by kernel_rfl) (by rfl) (exec_store3 rfl rfl rfl run9) (.inr ⟨bx9, bX9⟩) ?_
      have bx10 := bx9.of_block (G10.block _ bx9.lt (fun e => by have := Option.some.inj e; omega))
      have bX10 := bX9.of_block (G10.block _ bX9.lt (fun e => by have := Option.some.inj e; omega))
      refine Disk.z_skip 3 (w' := w10) rfl rfl (by kernel_rfl) (by rfl) (exec_store3 rfl rfl rfl run10) (.inr ⟨bx10, bX10⟩) ?_
      refine Disk.z_done (by kernel_rfl) ?_ _
      have ED := Kq.done gu SBB.out G9 G10
      have a0 := F9'.cell (i := 0) (by omega); have a1 := F9'.cell (i := 1) (by omega); have a2 := F9'.cell (i := 2) (by omega)
      have b0 := F10.cell (i := 0) (by omega); have b1 := F10.cell (i := 1) (by omega); have b2 := F10.cell (i := 2) (by omega)
      clear run9 run10 G9 G10 F9 F9' F10 R1 R2 R2' bx9 bx10 bX9 bX10 Kq CD gu hs
      go_wp2_with fail
      exact bodyPost_ret (v := .tuple #[.agg #[.slice pr g.roots.length er, .slice pn g.nodes.length en, .int .i64 g.hash], .agg #[.slice (some ⟨g3, 0, none⟩) g.roots.length d3, .slice (some ⟨gn, 0, none⟩) g.nodes.length dn, .int .i64 g.hash]]) (by simp [results, Tryd.results5, go_sem, a0, a1, a2, b0, b1, b2]) rfl ED
    · go_wp2_with fail
      refine (C1.dw.below 3 (by omega) (by omega)).mono ?_
      rintro x w7 ⟨⟨z, rfl, z0, z1⟩, g7, d7⟩
      have C2 := C1.step ⟨g7, d7⟩
      clear C1 g7 d7
      obtain rfl | rfl | rfl : z = 0 ∨ z = 1 ∨ z = 2 := by omega
      · have c2 : w7.cell? ⟨X, 2, none⟩ = some (.int .i64 g.hash) := (gr3_cells C2.rx).2.2
        have f2 : w7.frozen? ⟨X, 2, none⟩ = false := C2.rx.frozen 2
        have C3 := C2.hash (wrap64 (g.hash + 1))
        have st := store_oneG f2 c2 (v := wrap64 (g.hash + 1))
        generalize w7.setCell ⟨X, 2, none⟩ (.int .i64 (wrap64 (g.hash + 1))) = w8 at st C3
        clear C2 f2
        have CD := C3.step (Sx.refl C3.dw).drew
        have SBB : Hid _ := C3.sb
        clear C3
        go_wp2_with (refine store_qG st rfl _ _ rfl rfl rfl rfl ?_)
        refine Disk.z_plain 99 (fun W' => W'.rowIs A 27 3 (grF (.slice pr g.roots.length er) (.slice pn g.nodes.length en) g.hash) ∧ W'.rowIs X 27 3 (grF (.slice (some ⟨g3, 0, none⟩) g.roots.length d3) (.slice (some ⟨gn, 0, none⟩) g.nodes.length dn) ((wrap64 (g.hash + 1))))) hmx ⟨CD.fin.1.box, CD.rx⟩ (fun hs => ?_)
        generalize w8.drew = wd at hs CD ⊢
        refine Disk.z_take 0 60 (v := .agg #[.slice pr g.roots.length er, .slice pn g.nodes.length en, .int .i64 g.hash]) rfl rfl (by kernel_rfl) (by kernel_rfl) (by kernel_rfl) (by kernel_rfl) (by rfl) hs (fun W' hSw => (by
          obtain ⟨s0, s1, s2⟩ := gr3_cells hSw.1
          go_simp; first | done | with_reducible rfl)) ?_
        simp only [List.setIfInBounds_toArray, List.set_cons_zero, List.set_cons_succ]
        refine Disk.z_take 1 61 (v := .agg #[.slice (some ⟨g3, 0, none⟩) g.roots.length d3, .slice (some ⟨gn, 0, none⟩) g.nodes.length dn, .int .i64 (wrap64 (g.hash + 1))]) rfl rfl (by kernel_rfl) (by kernel_rfl) (by kernel_rfl) (by kernel_rfl) (by rfl) hs (fun W' hSw => (by
          obtain ⟨s0, s1, s2⟩ := gr3_cells hSw.2
          go_simp; first | done | with_reducible rfl)) ?_
        simp only [List.setIfInBounds_toArray, List.set_cons_zero, List.set_cons_succ]
        obtain ⟨Kq, gu⟩ := CD.fin
        obtain ⟨f1, R1⟩ := Kq.r1
        obtain ⟨f2, R2⟩ := Kq.r2
        have hr := Kq.hr
        have hNN := Kq.hN
        have hAA := Kq.hA
        have hXX : w1.heap.size ≤ X := Nat.le_trans CD.k.gr.size CD.lx
        obtain ⟨w9, run9, F9, G9⟩ := store_run3 wd w.heap.size #[.slice pr g.roots.length er, .slice pn g.nodes.length en, .int .i64 g.hash] f1 R1 rfl (by simp [Value.oneCell'])
        have R2' := R2.of_block (G9.block _ R2.lt (fun e => by have := Option.some.inj e; omega))
        obtain ⟨w10, run10, F10, G10⟩ := store_run3 w9 (w.heap.size + 1) #[.slice (some ⟨g3, 0, none⟩) g.roots.length d3, .slice (some ⟨gn, 0, none⟩) g.nodes.length dn, .int .i64 (wrap64 (g.hash + 1))] f2 R2' rfl (by simp [Value.oneCell'])
        have F9' := F9.of_block (G10.block _ F9.lt (fun e => by have := Option.some.inj e; omega))
        have bx9 := Kq.box.of_block (G9.block _ Kq.box.lt (fun e => by have := Option.some.inj e; omega))
        have bX9 := CD.rx.of_block (G9.block _ CD.rx.lt (fun e => by have := Option.some.inj e; omega))
        refine Disk.z_skip 2 (w' := w9) rfl rfl (by kernel_rfl) (by rfl) (exec_store3 rfl rfl rfl run9) (.inr ⟨bx9, bX9⟩) ?_
        have bx10 := bx9.of_block (G10.block _ bx9.lt (fun e => by have := Option.some.inj e; omega))
        have bX10 := bX9.of_block (G10.block _ bX9.lt (fun e => by have := Option.some.inj e; omega))
        refine Disk.z_skip 3 (w' := w10) rfl rfl (by kernel_rfl) (by rfl) (exec_store3 rfl rfl rfl run10) (.inr ⟨bx10, bX10⟩) ?_
        refine Disk.z_done (by kernel_rfl) ?_ _
        have ED := Kq.done gu SBB.out G9 G10
        have a0 := F9'.cell (i := 0) (by omega); have a1 := F9'.cell (i := 1) (by omega); have a2 := F9'.cell (i := 2) (by omega)
        have b0 := F10.cell (i := 0) (by omega); have b1 := F10.cell (i := 1) (by omega); have b2 := F10.cell (i := 2) (by omega)
        clear run9 run10 G9 G10 F9 F9' F10 R1 R2 R2' bx9 bx10 bX9 bX10 Kq CD gu hs
        go_wp2_with fail
        exact bodyPost_ret (v := .tuple #[.agg #[.slice pr g.roots.length er, .slice pn g.nodes.length en, .int .i64 g.hash], .agg #[.slice (some ⟨g3, 0, none⟩) g.roots.length d3, .slice (some ⟨gn, 0, none⟩) g.nodes.length dn, .int .i64 (wrap64 (g.hash + 1))]]) (by simp [results, Tryd.results5, go_sem, a0, a1, a2, b0, b1, b2]) rfl ED
      · have C3 := C2.step (Sx.alloc C2.dw C2.lt (.cells #[.int .i64 0] 2))
        have c0 : w7.cell? ⟨X, 0, none⟩ = some (.slice (some ⟨g3, 0, none⟩) g.roots.length d3) := (gr3_cells C2.rx).1
        have I0 : IR (w7.alloc (.cells #[.int .i64 0] 2)) (.slice (some ⟨w7.heap.size, 0, none⟩) 1 1) [0] := ⟨_, 1, rfl, Nat.le_refl _, fun i hi => ⟨w7.heap.size, 0, rfl, by
          obtain rfl : i = 0 := by simpa using hi
          simp⟩⟩
        obtain ⟨g5, d5, w8, run8, ri5, gr5, lo5, hd5⟩ := run_app_ri (w7.alloc (.cells #[.int .i64 0] 2)) 24 g3 d3 g.roots.length g.roots rfl C3.ri (by omega) C3.hd (some ⟨w7.heap.size, 0, none⟩) 1 1 [0] rfl I0 (by simp)
        have C4 := C3.root (g.roots.length + 1) rfl hr0 ri5 gr5 lo5 hd5
        have rx8 := C3.rx.of_block (gr5.block _ C3.rx.lt (fun e => C3.n2 (Option.some.inj e).symm))
        have c8 : w8.cell? ⟨X, 0, none⟩ = some (.slice (some ⟨g3, 0, none⟩) g.roots.length d3) := (gr3_cells rx8).1
        have f8 : w8.frozen? ⟨X, 0, none⟩ = false := rx8.frozen 0
        have st := store_sliG f8 c8 (a := some ⟨g5, 0, none⟩) (n := g.roots.length + 1) (c := d5)
        generalize w8.setCell ⟨X, 0, none⟩ (.slice (some ⟨g5, 0, none⟩) (g.roots.length + 1) d5) = w9s at st C4
        clear C2 C3 I0 ri5 gr5 lo5 hd5 rx8 c8 f8
        have CD := C4.step (Sx.refl C4.dw).drew
        have SBB : Hid _ := C4.sb
        clear C4
        go_wp2_with (first | (at_builtin; refine app_runG rfl _ _ rfl rfl rfl run8 ?_) | (refine store_qG st rfl _ _ rfl rfl rfl rfl ?_))
        refine Disk.z_plain 99 (fun W' => W'.rowIs A 27 3 (grF (.slice pr g.roots.length er) (.slice pn g.nodes.length en) g.hash) ∧ W'.rowIs X 27 3 (grF (.slice (some ⟨g5, 0, none⟩) (g.roots ++ [0]).length d5) (.slice (some ⟨gn, 0, none⟩) g.nodes.length dn) (g.hash))) hmx ⟨CD.fin.1.box, CD.rx⟩ (fun hs => ?_)
        generalize w9s.drew = wd at hs CD ⊢
        refine Disk.z_take 0 60 (v := .agg #[.slice pr g.roots.length er, .slice pn g.nodes.length en, .int .i64 g.hash]) rfl rfl (by kernel_rfl) (by kernel_rfl) (by kernel_rfl) (by kernel_rfl) (by rfl) hs (fun W' hSw => (by
          obtain ⟨s0, s1, s2⟩ := gr3_cells hSw.1
          go_simp; first | done | with_reducible rfl)) ?_
        simp only [List.setIfInBounds_toArray, List.set_cons_zero, List.set_cons_succ]
        refine Disk.z_take 1 61 (v := .agg #[.slice (some ⟨g5, 0, none⟩) (g.roots ++ [0]).length d5, .slice (some ⟨gn, 0, none⟩) g.nodes.length dn, .int .i64 g.hash]) rfl rfl (by kernel_rfl) (by kernel_rfl) (by kernel_rfl) (by kernel_rfl) (by rfl) hs (fun W' hSw => (by
          obtain ⟨s0, s1, s2⟩ := gr3_cells hSw.2
          go_simp; first | done | with_reducible rfl)) ?_
        simp only [List.setIfInBounds_toArray, List.set_cons_zero, List.set_cons_succ]
        obtain ⟨Kq, gu⟩ := CD.fin
        obtain ⟨f1, R1⟩ := Kq.r1
        obtain ⟨f2, R2⟩ := Kq.r2
        have hr := Kq.hr
        have hNN := Kq.hN
        have hAA := Kq.hA
        have hXX : w1.heap.size ≤ X := Nat.le_trans CD.k.gr.size CD.lx
        obtain ⟨w9, run9, F9, G9⟩ := store_run3 wd w.heap.size #[.slice pr g.roots.length er, .slice pn g.nodes.length en, .int .i64 g.hash] f1 R1 rfl (by simp [Value.oneCell'])
        have R2' := R2.of_block (G9.block _ R2.lt (fun e => by have := Option.some.inj e; omega))
        obtain ⟨w10, run10, F10, G10⟩ := store_run3 w9 (w.heap.size + 1) #[.slice (some ⟨g5, 0, none⟩) (g.roots ++ [0]).length d5, .slice (some ⟨gn, 0, none⟩) g.nodes.length dn, .int .i64 g.hash] f2 R2' rfl (by simp [Value.oneCell'])
        have F9' := F9.of_block (G10.block _ F9.lt (fun e => by have := Option.some.inj e; omega))
        have bx9 := Kq.box.of_block (G9.block _ Kq.box.lt (fun e => by have := Option.some.inj e; omega))
        have bX9 := CD.rx.of_block (G9.block _ CD.rx.lt (fun e => by have := Option.some.inj e; omega))
        refine Disk.z_skip 2 (w' := w9) rfl rfl (by kernel_rfl) (by rfl) (exec_store3 rfl rfl rfl run9) (.inr ⟨bx9, bX9⟩) ?_
        have bx10 := bx9.of_block (G10.block _ bx9.lt (fun e => by have := Option.some.inj e; omega))
        have bX10 := bX9.of_block (G10.block _ bX9.lt (fun e => by have := Option.some.inj e; omega))
        refine Disk.z_skip 3 (w' := w10) rfl rfl (by kernel_rfl) (by rfl) (exec_store3 rfl rfl rfl run10) (.inr ⟨bx10, bX10⟩) ?_
        refine Disk.z_done (by kernel_rfl) ?_ _
        have ED := Kq.done gu SBB.out G9 G10
        have a0 := F9'.cell (i := 0) (by omega); have a1 := F9'.cell (i := 1) (by omega); have a2 := F9'.cell (i := 2) (by omega)
        have b0 := F10.cell (i := 0) (by omega); have b1 := F10.cell (i := 1) (by omega); have b2 := F10.cell (i := 2) (by omega)
        clear run9 run10 G9 G10 F9 F9' F10 R1 R2 R2' bx9 bx10 bX9 bX10 Kq CD gu hs
        go_wp2_with fail
        exact bodyPost_ret (v := .tuple #[.agg #[.slice pr g.roots.length er, .slice pn g.nodes.length en, .int .i64 g.hash], .agg #[.slice (some ⟨g5, 0, none⟩) (g.roots ++ [0]).length d5, .slice (some ⟨gn, 0, none⟩) g.nodes.length dn, .int .i64 g.hash]]) (by simp [results, Tryd.results5, go_sem, a0, a1, a2, b0, b1, b2]) rfl ED
      · have c1 : w7.cell? ⟨X, 1, none⟩ = some (.slice (some ⟨gn, 0, none⟩) g.nodes.length dn) := (gr3_cells C2.rx).2.1
        by_cases hn0 : 0 < g.nodes.length
        · have hni : decide ((0 : Int) < (g.nodes.length : Int)) = true := by simp; omega
          have hnj : (0 : Int) < (g.nodes.length : Int) := by omega
          have CD2 := C2.step (Sx.refl C2.dw).drew
          obtain ⟨y, cy, fy⟩ := CD2.cls0 hn0
          have C3 := CD2.cls hn0 (g64_wrap (y + 1))
          have st := store_oneG fy cy (v := wrap64 (y + 1))
          have RX2 := CD2.rx
          clear C2 fy
          go_wp2_with fail
          refine Disk.z_plain 10 (fun W' => W'.rowIs X 27 3 (grF (.slice (some ⟨g3, 0, none⟩) g.roots.length d3) (.slice (some ⟨gn, 0, none⟩) g.nodes.length dn) g.hash) ∧ W'.cell? ⟨gn, 0, none⟩ = some (.int .i64 y)) hmx ⟨RX2, cy⟩ (fun hs => ?_)
          clear c1
          generalize w7.drew = w8 at *
          refine Disk.z_take 0 50 (v := .pointer (some ⟨X, 1, none⟩)) rfl rfl (by kernel_rfl) (by kernel_rfl) (by kernel_rfl) (by kernel_rfl) (by rfl) hs (fun W' hSw => (by
            obtain ⟨s0, s1, s2⟩ := gr3_cells hSw.1
            have s3 := hSw.2
            go_simp; first | done | with_reducible rfl | with_reducible rfl)) ?_
          simp only [List.setIfInBounds_toArray, List.set_cons_zero, List.set_cons_succ]
          refine Disk.z_take 1 51 (v := .slice (some ⟨gn, 0, none⟩) g.nodes.length dn) rfl rfl (by kernel_rfl) (by kernel_rfl) (by kernel_rfl) (by kernel_rfl) (by rfl) hs (fun W' hSw => (by
            obtain ⟨s0, s1, s2⟩ := gr3_cells hSw.1
            have s3 := hSw.2
            go_simp; first | done | with_reducible rfl | with_reducible rfl)) ?_
          simp only [List.setIfInBounds_toArray, List.set_cons_zero, List.set_cons_succ]
          refine Disk.z_take 2 52 (v := .pointer (some ⟨X, 1, none⟩)) rfl rfl (by kernel_rfl) (by kernel_rfl) (by kernel_rfl) (by kernel_rfl) (by rfl) hs (fun W' hSw => (by
            obtain ⟨s0, s1, s2⟩ := gr3_cells hSw.1
            have s3 := hSw.2
            go_simp; first | done | with_reducible rfl | with_reducible rfl)) ?_
          simp only [List.setIfInBounds_toArray, List.set_cons_zero, List.set_cons_succ]
          refine Disk.z_take 3 53 (v := .slice (some ⟨gn, 0, none⟩) g.nodes.length dn) rfl rfl (by kernel_rfl) (by kernel_rfl) (by kernel_rfl) (by kernel_rfl) (by rfl) hs (fun W' hSw => (by
            obtain ⟨s0, s1, s2⟩ := gr3_cells hSw.1
            have s3 := hSw.2
            go_simp; first | done | with_reducible rfl | with_reducible rfl)) ?_
          simp only [List.setIfInBounds_toArray, List.set_cons_zero, List.set_cons_succ]
          refine Disk.z_take 4 54 (v := .pointer (some ⟨gn, 0, none⟩)) rfl rfl (by kernel_rfl) (by kernel_rfl) (by kernel_rfl) (by kernel_rfl) (by rfl) hs (fun W' hSw => (by
            obtain ⟨s0, s1, s2⟩ := gr3_cells hSw.1
            have s3 := hSw.2
            go_simp; first | done | with_reducible rfl | with_reducible rfl)) ?_
          simp only [List.setIfInBounds_toArray, List.set_cons_zero, List.set_cons_succ]
          refine Disk.z_take 5 55 (v := .pointer (some ⟨gn, 0, none⟩)) rfl rfl (by kernel_rfl) (by kernel_rfl) (by kernel_rfl) (by kernel_rfl) (by rfl) hs (fun W' hSw => (by
            obtain ⟨s0, s1, s2⟩ := gr3_cells hSw.1
            have s3 := hSw.2
            go_simp; first | done | with_reducible rfl | with_reducible rfl)) ?_
          simp only [List.setIfInBounds_toArray, List.set_cons_zero, List.set_cons_succ]
          refine Disk.z_take 6 56 (v := .int .i64 y) rfl rfl (by kernel_rfl) (by kernel_rfl) (by kernel_rfl) (by kernel_rfl) (by rfl) hs (fun W' hSw => (by
            obtain ⟨s0, s1, s2⟩ := gr3_cells hSw.1
            have s3 := hSw.2
            go_simp; first | done | with_reducible rfl | with_reducible rfl)) ?_
          simp only [List.setIfInBounds_toArray, List.set_cons_zero, List.set_cons_succ]
          refine Disk.z_take 7 57 (v := .int .i64 (wrap64 (y + 1))) rfl rfl (by kernel_rfl) (by kernel_rfl) (by kernel_rfl) (by kernel_rfl) (by rfl) hs (fun W' hSw => (by
            obtain ⟨s0, s1, s2⟩ := gr3_cells hSw.1
            have s3 := hSw.2
            go_simp; first | done | exact (by unfold wrap64; exact IntKind.wrap_i64 _) | with_reducible rfl)) ?_
          simp only [List.setIfInBounds_toArray, List.set_cons_zero, List.set_cons_succ]
          refine Disk.z_run 8 58 (v := .pointer (some ⟨gn, 0, none⟩)) rfl rfl (by kernel_rfl) (by rfl) (by go_simp; first | done | with_reducible rfl) (.inr hs) ?_
          simp only [List.setIfInBounds_toArray, List.set_cons_zero, List.set_cons_succ]
          refine Disk.z_run 9 59 (v := .pointer (some ⟨gn, 0, none⟩)) rfl rfl (by kernel_rfl) (by rfl) (by go_simp; first | done | with_reducible rfl) (.inr hs) ?_
          simp only [List.setIfInBounds_toArray, List.set_cons_zero, List.set_cons_succ]
          refine Disk.z_skip 10 (w' := w8.setCell ⟨gn, 0, none⟩ (.int .i64 (wrap64 (y + 1)))) rfl rfl (by kernel_rfl) (by rfl) (exec_store3 rfl rfl rfl st) (.inl rfl) ?_
          refine Disk.z_done (by kernel_rfl) ?_ _
          clear hs st cy RX2 CD2
          generalize w8.setCell ⟨gn, 0, none⟩ (.int .i64 (wrap64 (y + 1))) = w9s at C3 ⊢
          generalize hns : g.nodes.set 0 { g.nodes.getD 0 nd0 with cls := wrap64 (y + 1) } = ns2 at C3
          clear hns
          have CD := C3.step (Sx.refl C3.dw).drew
          have SBB : Hid _ := C3.sb
          clear C3
          go_wp2_with fail
          refine Disk.z_plain 99 (fun W' => W'.rowIs A 27 3 (grF (.slice pr g.roots.length er) (.slice pn g.nodes.length en) g.hash) ∧ W'.rowIs X 27 3 (grF (.slice (some ⟨g3, 0, none⟩) g.roots.length d3) (.slice (some ⟨gn, 0, none⟩) ns2.length dn) (g.hash))) hmx ⟨CD.fin.1.box, CD.rx⟩ (fun hs => ?_)
          generalize w9s.drew = wd at hs CD ⊢
          refine Disk.z_take 0 60 (v := .agg #[.slice pr g.roots.length er, .slice pn g.nodes.length en, .int .i64 g.hash]) rfl rfl (by kernel_rfl) (by kernel_rfl) (by kernel_rfl) (by kernel_rfl) (by rfl) hs (fun W' hSw => (by
            obtain ⟨s0, s1, s2⟩ := gr3_cells hSw.1
            go_simp; first | done | with_reducible rfl)) ?_
          simp only [List.setIfInBounds_toArray, List.set_cons_zero, List.set_cons_succ]
          refine Disk.z_take 1 61 (v := .agg #[.slice (some ⟨g3, 0, none⟩) g.roots.length d3, .slice (some ⟨gn, 0, none⟩) ns2.length dn, .int .i64 g.hash]) rfl rfl (by kernel_rfl) (by kernel_rfl) (by kernel_rfl) (by kernel_rfl) (by rfl) hs (fun W' hSw => (by
            obtain ⟨s0, s1, s2⟩ := gr3_cells hSw.2
            go_simp; first | done | with_reducible rfl)) ?_
          simp only [List.setIfInBounds_toArray, List.set_cons_zero, List.set_cons_succ]
          obtain ⟨Kq, gu⟩ := CD.fin
          obtain ⟨f1, R1⟩ := Kq.r1
          obtain ⟨f2, R2⟩ := Kq.r2
          have hr := Kq.hr
          have hNN := Kq.hN
          have hAA := Kq.hA
          have hXX : w1.heap.size ≤ X := Nat.le_trans CD.k.gr.size CD.lx
          obtain ⟨w9, run9, F9, G9⟩ := store_run3 wd w.heap.size #[.slice pr g.roots.length er, .slice pn g.nodes.length en, .int .i64 g.hash] f1 R1 rfl (by simp [Value.oneCell'])
          have R2' := R2.of_block (G9.block _ R2.lt (fun e => by have := Option.some.inj e; omega))
          obtain ⟨w10, run10, F10, G10⟩ := store_run3 w9 (w.heap.size + 1) #[.slice (some ⟨g3, 0, none⟩) g.roots.length d3, .slice (some ⟨gn, 0, none⟩) ns2.length dn, .int .i64 g.hash] f2 R2' rfl (by simp [Value.oneCell'])
          have F9' := F9.of_block (G10.block _ F9.lt (fun e => by have := Option.some.inj e; omega))
          have bx9 := Kq.box.of_block (G9.block _ Kq.box.lt (fun e => by have := Option.some.inj e; omega))
          have bX9 := CD.rx.of_block (G9.block _ CD.rx.lt (fun e => by have := Option.some.inj e; omega))
          refine Disk.z_skip 2 (w' := w9) rfl rfl (by kernel_rfl) (by rfl) (exec_store3 rfl rfl rfl run9) (.inr ⟨bx9, bX9⟩) ?_
          have bx10 := bx9.of_block (G10.block _ bx9.lt (fun e => by have := Option.some.inj e; omega))
          have bX10 := bX9.of_block (G10.block _ bX9.lt (fun e => by have := Option.some.inj e; omega))
          refine Disk.z_skip 3 (w' := w10) rfl rfl (by kernel_rfl) (by rfl) (exec_store3 rfl rfl rfl run10) (.inr ⟨bx10, bX10⟩) ?_
          refine Disk.z_done (by kernel_rfl) ?_ _
          have ED := Kq.done gu SBB.out G9 G10
          have a0 := F9'.cell (i := 0) (by omega); have a1 := F9'.cell (i := 1) (by omega); have a2 := F9'.cell (i := 2) (by omega)
          have b0 := F10.cell (i := 0) (by omega); have b1 := F10.cell (i := 1) (by omega); have b2 := F10.cell (i := 2) (by omega)
          clear run9 run10 G9 G10 F9 F9' F10 R1 R2 R2' bx9 bx10 bX9 bX10 Kq CD gu hs
          go_wp2_with fail
          exact bodyPost_ret (v := .tuple #[.agg #[.slice pr g.roots.length er, .slice pn g.nodes.length en, .int .i64 g.hash], .agg #[.slice (some ⟨g3, 0, none⟩) g.roots.length d3, .slice (some ⟨gn, 0, none⟩) ns2.length dn, .int .i64 g.hash]]) (by simp [results, Tryd.results5, go_sem, a0, a1, a2, b0, b1, b2]) rfl ED
        · have hni : decide ((0 : Int) < (g.nodes.length : Int)) = false := decide_eq_false (by omega)
          have CD := C2.step (Sx.refl C2.dw).drew
          have SBB : Hid _ := C2.sb
          clear C2
          go_wp2_with fail
          refine Disk.z_plain 99 (fun W' => W'.rowIs A 27 3 (grF (.slice pr g.roots.length er) (.slice pn g.nodes.length en) g.hash) ∧ W'.rowIs X 27 3 (grF (.slice (some ⟨g3, 0, none⟩) g.roots.length d3) (.slice (some ⟨gn, 0, none⟩) g.nodes.length dn) (g.hash))) hmx ⟨CD.fin.1.box, CD.rx⟩ (fun hs => ?_)
          generalize w7.drew = wd at hs CD ⊢
          refine Disk.z_take 0 60 (v := .agg #[.slice pr g.roots.length er, .slice pn g.nodes.length en, .int .i64 g.hash]) rfl rfl (by kernel_rfl) (by kernel_rfl) (by kernel_rfl) (by kernel_rfl) (by rfl) hs (fun W' hSw => (by
            obtain ⟨s0, s1, s2⟩ := gr3_cells hSw.1
            go_simp; first | done | with_reducible rfl)) ?_
          simp only [List.setIfInBounds_toArray, List.set_cons_zero, List.set_cons_succ]
          refine Disk.z_take 1 61 (v := .agg #[.slice (some ⟨g3, 0, none⟩) g.roots.length d3, .slice (some ⟨gn, 0, none⟩) g.nodes.length dn, .int .i64 g.hash]) rfl rfl (by kernel_rfl) (by kernel_rfl) (by kernel_rfl) (by kernel_rfl) (by rfl) hs (fun W' hSw => (by
            obtain ⟨s0, s1, s2⟩ := gr3_cells hSw.2
            go_simp; first | done | with_reducible rfl)) ?_
          simp only [List.setIfInBounds_toArray, List.set_cons_zero, List.set_cons_succ]
          obtain ⟨Kq, gu⟩ := CD.fin
          obtain ⟨f1, R1⟩ := Kq.r1
          obtain ⟨f2, R2⟩ := Kq.r2
          have hr := Kq.hr
          have hNN := Kq.hN
          have hAA := Kq.hA
          have hXX : w1.heap.size ≤ X := Nat.le_trans CD.k.gr.size CD.lx
          obtain ⟨w9, run9, F9, G9⟩ := store_run3 wd w.heap.size #[.slice pr g.roots.length er, .slice pn g.nodes.length en, .int .i64 g.hash] f1 R1 rfl (by simp [Value.oneCell'])
          have R2' := R2.of_block (G9.block _ R2.lt (fun e => by have := Option.some.inj e; omega))
          obtain ⟨w10, run10, F10, G10⟩ := store_run3 w9 (w.heap.size + 1) #[.slice (some ⟨g3, 0, none⟩) g.roots.length d3, .slice (some ⟨gn, 0, none⟩) g.nodes.length dn, .int .i64 g.hash] f2 R2' rfl (by simp [Value.oneCell'])
          have F9' := F9.of_block (G10.block _ F9.lt (fun e => by have := Option.some.inj e; omega))
          have bx9 := Kq.box.of_block (G9.block _ Kq.box.lt (fun e => by have := Option.some.inj e; omega))
          have bX9 := CD.rx.of_block (G9.block _ CD.rx.lt (fun e => by have := Option.some.inj e; omega))
          refine Disk.z_skip 2 (w' := w9) rfl rfl (by kernel_rfl) (by rfl) (exec_store3 rfl rfl rfl run9) (.inr ⟨bx9, bX9⟩) ?_
          have bx10 := bx9.of_block (G10.block _ bx9.lt (fun e => by have := Option.some.inj e; omega))
          have bX10 := bX9.of_block (G10.block _ bX9.lt (fun e => by have := Option.some.inj e; omega))
          refine Disk.z_skip 3 (w' := w10) rfl rfl (by kernel_rfl) (by rfl) (exec_store3 rfl rfl rfl run10) (.inr ⟨bx10, bX10⟩) ?_
          refine Disk.z_done (by kernel_rfl) ?_ _
          have ED := Kq.done gu SBB.out G9 G10
          have a0 := F9'.cell (i := 0) (by omega); have a1 := F9'.cell (i := 1) (by omega); have a2 := F9'.cell (i := 2) (by omega)
          have b0 := F10.cell (i := 0) (by omega); have b1 := F10.cell (i := 1) (by omega); have b2 := F10.cell (i := 2) (by omega)
          clear run9 run10 G9 G10 F9 F9' F10 R1 R2 R2' bx9 bx10 bX9 bX10 Kq CD gu hs
          go_wp2_with fail
          exact bodyPost_ret (v := .tuple #[.agg #[.slice pr g.roots.length er, .slice pn g.nodes.length en, .int .i64 g.hash], .agg #[.slice (some ⟨g3, 0, none⟩) g.roots.length d3, .slice (some ⟨gn, 0, none⟩) g.nodes.length dn, .int .i64 g.hash]]) (by simp [results, Tryd.results5, go_sem, a0, a1, a2, b0, b1, b2]) rfl ED
  · skip
    have KD : SG w w1 N cv cs A w4.drew (.slice pr g.roots.length er) (.slice pn g.nodes.length en) g := K1.step (Sx.refl K1.dw).drew
    go_wp2_with fail
    refine Disk.z_plain 99 (fun W' => W'.rowIs A 27 3 (grF (.slice pr g.roots.length er) (.slice pn g.nodes.length en) g.hash)) hmx KD.box (fun hs => ?_)
    clear K1
    generalize w4.drew = wd at hs KD ⊢
    refine Disk.z_take 0 13 (v := .agg #[.slice pr g.roots.length er, .slice pn g.nodes.length en, .int .i64 g.hash]) rfl rfl (by kernel_rfl) (by kernel_rfl) (by kernel_rfl) (by kernel_rfl) (by rfl) hs (fun W' hSw => (by
      obtain ⟨s0, s1, s2⟩ := gr3_cells hSw
      go_simp; first | done | with_reducible rfl)) ?_
    simp only [List.setIfInBounds_toArray, List.set_cons_zero, List.set_cons_succ]
    refine Disk.z_take 1 14 (v := .pointer (some ⟨N, 0, none⟩)) rfl rfl (by kernel_rfl) (by kernel_rfl) (by kernel_rfl) (by kernel_rfl) (by rfl) hs (fun W' hSw => (by
      obtain ⟨s0, s1, s2⟩ := gr3_cells hSw
      go_simp; first | done | with_reducible rfl)) ?_
    simp only [List.setIfInBounds_toArray, List.set_cons_zero, List.set_cons_succ]
    refine Disk.z_call 2 15 rfl rfl (by kernel_rfl) (by rfl) (f := 10) (args := #[.pointer (some ⟨N, 0, none⟩)]) (w0 := wd) (by go_simp) ?_
    refine (KD.dw.graph KD.lt).mono ?_
    rintro e wq ⟨⟨u, g', rfl, gu, su⟩, gq, dq⟩
    have Kq := KD.step ⟨gq, dq⟩
    have gu1 := gu.down KD.gr.size
    obtain ⟨pr', er', pn', en', rfl, -, -⟩ := id gu.gr.out
    refine ⟨_, rfl, .inr Kq.box, ?_⟩
    simp only [List.setIfInBounds_toArray, List.set_cons_zero, List.set_cons_succ]
    clear hs KD gq dq gu
    obtain ⟨f1, R1⟩ := Kq.r1
    obtain ⟨f2, R2⟩ := Kq.r2
    have hr := Kq.hr
    have hNN := Kq.hN
    have hAA := Kq.hA
    obtain ⟨w9, run9, F9, G9⟩ := store_run3 wq w.heap.size #[.slice pr g.roots.length er, .slice pn g.nodes.length en, .int .i64 g.hash] f1 R1 rfl (by simp [Value.oneCell'])
    have R2' := R2.of_block (G9.block _ R2.lt (fun e => by have := Option.some.inj e; omega))
    obtain ⟨w10, run10, F10, G10⟩ := store_run3 w9 (w.heap.size + 1) #[.slice pr' g'.roots.length er', .slice pn' g'.nodes.length en', .int .i64 g'.hash] f2 R2' rfl (by simp [Value.oneCell'])
    have F9' := F9.of_block (G10.block _ F9.lt (fun e => by have := Option.some.inj e; omega))
    have bx9 := Kq.box.of_block (G9.block _ Kq.box.lt (fun e => by have := Option.some.inj e; omega))
    refine Disk.z_skip 3 (w' := w9) rfl rfl (by kernel_rfl) (by rfl) (exec_store3 rfl rfl rfl run9) (.inr bx9) ?_
    have bx10 := bx9.of_block (G10.block _ bx9.lt (fun e => by have := Option.some.inj e; omega))
    refine Disk.z_skip 4 (w' := w10) rfl rfl (by kernel_rfl) (by rfl) (exec_store3 rfl rfl rfl run10) (.inr bx10) ?_
    refine Disk.z_done (by kernel_rfl) ?_ _
    have ED := Kq.done gu1 su.b G9 G10
    have a0 := F9'.cell (i := 0) (by omega); have a1 := F9'.cell (i := 1) (by omega); have a2 := F9'.cell (i := 2) (by omega)
    have b0 := F10.cell (i := 0) (by omega); have b1 := F10.cell (i := 1) (by omega); have b2 := F10.cell (i := 2) (by omega)
    clear run9 run10 G9 G10 F9 F9' F10 R1 R2 R2' bx9 bx10 Kq
    go_wp2_with fail
    exact bodyPost_ret (v := .tuple #[.agg #[.slice pr g.roots.length er, .slice pn g.nodes.length en, .int .i64 g.hash], .agg #[.slice pr' g'.roots.length er', .slice pn' g'.nodes.length en', .int .i64 g'.hash]]) (by simp [results, Tryd.results5, go_sem, a0, a1, a2, b0, b1, b2]) rfl ED

end Go.Proofs.YtboiknllmnfipaaDoor
