import Derived.Test.YtjclpbaiiklhcaaGreatDoorZV19
import Derived.Deep.RegionHeld
import Derived.RangeFuncCalls
import Derived.OrdersIn
import Derived.TacticsIn
/- A disk drawn: its damages. -/
namespace Go.Proofs.YtjclpbaiiklhcaaGreatDoor
open Go.RowKit

/-- A write into a block above the ground leaves the code that is drawn from. -/
theorem dw_off {w W W' : World} {N b : Nat} {cv : Value} {cs : List UInt8} (hbr : BR w cv cs) (hN : N < w.heap.size) (hb : w.heap.size ≤ b) (g : w.grownBy W (some N)) (d : Dw N cv cs W) (k : W.grownBy W' (some b)) : w.grownBy W' (some N) ∧ Dw N cv cs W' := by
  have hsz := g.size
  exact ⟨gmix g k (fun e he => by have := Option.some.inj he; omega), ⟨br_off hbr d.br hb k, d.len, d.dr.grown k (fun e => by have := Option.some.inj e; omega) (by omega), d.off⟩⟩
/-- Other late writes go into the box. -/
theorem Dd.late {w W : World} {N D : Nat} {cv : Value} {cs : List UInt8} {u1 u2 x2 : Value} {ss : List ByteArray} {ws ws' : List Disk.Wr} (h : Dd w N cv cs D W u1 u2 ss ws) (hbr : BR w cv cs) (hN : N < w.heap.size) (no : Disk.NO w.heap.size W x2 ws') (l2 : ws'.length ≤ 300) :
    Dd w N cv cs D (W.setCell ⟨D, 1, none⟩ x2) u1 x2 ss ws' := by
  have k : W.grownBy (W.setCell ⟨D, 1, none⟩ x2) (some D) := gset1 W D 1 x2
  have hlo := h.lo
  have hsz := h.gr.size
  obtain ⟨g, d⟩ := dw_off hbr hN (by omega : w.heap.size ≤ D) h.gr h.dw k
  refine ⟨d, g, ?_, h.lo, h.rs.grown k (fun e => by have := Option.some.inj e; omega), ns_sep h.ns k (os_sep h.ns.1 h.bx (by decide)), no_sep no k h.bx (by decide), h.l1, l2, h.cp, h.sz⟩
  unfold Bx
  simp [World.setCell, Array.getElem?_modify, show W.heap[D]? = _ from h.bx]
/-- A new block. -/
theorem Dd.al {w W : World} {N D : Nat} {cv : Value} {cs : List UInt8} {u1 u2 : Value} {ss : List ByteArray} {ws : List Disk.Wr} (h : Dd w N cv cs D W u1 u2 ss ws) (hN : N < w.heap.size) (o : Obj) : Dd w N cv cs D (W.alloc o) u1 u2 ss ws :=
  h.step hN (galloc _ _ _) (h.dw.grown (galloc _ _ _) h.dw (galloc _ _ none) (by simp) (by have := h.gr.size; omega))
def blankW : Disk.Wr := (0, ⟨#[]⟩)
theorem lcells_blank (n : Nat) : Disk.lcells (List.replicate n blankW) = (madeCells #[.int .i64 0, .string ⟨#[]⟩] (n * 2)).toList := by
  apply List.ext_getElem?
  intro i
  by_cases hi : i < n * 2
  · have hb : (List.replicate n blankW).getD (i / 2) Disk.wr0 = blankW := by
      rw [List.getD_eq_getElem?_getD, List.getElem?_replicate, if_pos (by omega)]
      rfl
    rw [Disk.lcells_get _ i (by rw [List.length_replicate]; exact hi), Array.getElem?_toList]
    unfold Disk.lcell
    rw [hb]
    rcases (by omega : i % 2 = 0 ∨ i % 2 = 1) with hp | hp
    · rw [if_pos hp]
      simp [madeCells, hi, hp, blankW]
    · rw [if_neg (by omega)]
      simp [madeCells, hi, hp, blankW]
  · rw [List.getElem?_eq_none (by rw [Disk.lcells_length, List.length_replicate]; omega), Array.getElem?_toList, Array.getElem?_eq_none (by rw [size_madeCells]; omega)]
theorem made_no (w : World) (B n : Nat) (hB : B ≤ w.heap.size) (hn : n ≤ 1000) : Disk.NO B (w.alloc (.cells (madeCells #[.int .i64 0, .string ⟨#[]⟩] (n * 2)) 48)) (.slice (some ⟨w.heap.size, 0, none⟩) n n) (List.replicate n blankW) := by
  refine .inr ⟨by rw [lcells_blank, List.length_replicate]; simp [size_madeCells], .inr ⟨w.heap.size, n, _, by rw [List.length_replicate], hB, heap_alloc_new w _, by rw [List.length_replicate]; exact Nat.le_refl _, by unfold maxLen; omega, ?_, ?_⟩⟩
  · simp [size_madeCells]
  · rw [lcells_blank, List.length_replicate]
    apply List.take_of_length_le
    simp [size_madeCells]
/-- The first sector is left out, and the disk goes into the result. -/
theorem Dd.less {w W : World} {N D rb rc : Nat} {cv : Value} {cs : List UInt8} {u2 : Value} {ss : List ByteArray} {ws : List Disk.Wr} (h : Dd w N cv cs D W (.slice (some ⟨rb, 0, none⟩) 64 rc) u2 ss ws) (hbr : BR w cv cs) (hN : N < w.heap.size) (s : Value) (hs : s = .slice (some ⟨rb, 1, none⟩) 63 (rc - 1)) :
    Disk.SR (((W.setCell ⟨D, 0, none⟩ s).setCell ⟨w.heap.size, 0, none⟩ s).setCell ⟨w.heap.size, 1, none⟩ u2) s (ss.drop 1) ∧ Disk.WR (((W.setCell ⟨D, 0, none⟩ s).setCell ⟨w.heap.size, 0, none⟩ s).setCell ⟨w.heap.size, 1, none⟩ u2) u2 ws ∧ w.grownBy (((W.setCell ⟨D, 0, none⟩ s).setCell ⟨w.heap.size, 0, none⟩ s).setCell ⟨w.heap.size, 1, none⟩ u2) (some N) ∧ Dw N cv cs (((W.setCell ⟨D, 0, none⟩ s).setCell ⟨w.heap.size, 0, none⟩ s).setCell ⟨w.heap.size, 1, none⟩ u2) ∧ Bx (((W.setCell ⟨D, 0, none⟩ s).setCell ⟨w.heap.size, 0, none⟩ s).setCell ⟨w.heap.size, 1, none⟩ u2) w.heap.size s u2 := by
  have hlo := h.lo
  have k1 : W.grownBy (W.setCell ⟨D, 0, none⟩ s) (some D) := gset1 W D 0 s
  obtain ⟨g1, d1⟩ := dw_off hbr hN (by omega : w.heap.size ≤ D) h.gr h.dw k1
  have k2 : (W.setCell ⟨D, 0, none⟩ s).grownBy (((W.setCell ⟨D, 0, none⟩ s).setCell ⟨w.heap.size, 0, none⟩ s).setCell ⟨w.heap.size, 1, none⟩ u2) (some w.heap.size) := gset (gset1 _ w.heap.size 0 s) 1 u2
  obtain ⟨g2, d2⟩ := dw_off hbr hN (Nat.le_refl _) g1 d1 k2
  have n1 := ns_sep h.ns k1 (os_sep h.ns.1 h.bx (by decide))
  have r1 := h.rs.grown k1 (fun e => by have := Option.some.inj e; omega)
  have n2 := ns_sep n1 k2 (os_sep n1.1 r1 (by decide))
  have o1 := no_sep h.no k1 h.bx (by decide)
  have o2 := no_sep o1 k2 r1 (by decide)
  obtain ⟨b, cp, e, _, _, hc, _⟩ := n2.form (by rw [h.l1]; omega)
  injection e with e1 e2 e3
  injection e1 with e1
  injection e1 with e1 _ _
  subst e1
  have l1 := h.l1
  refine ⟨⟨some ⟨rb, 1, none⟩, rc - 1, ?_, fun i hi => ⟨rb, 1, rfl, ?_⟩⟩, o2.nw.2.1, g2, d2, r1.set s u2⟩
  · rw [hs, List.length_drop, l1]
  · rw [List.length_drop, l1] at hi
    rw [Nat.add_comm 1 i, hc (i + 1) (by omega)]
    simp [List.getD_eq_getElem?_getD]

/-- A slice lies from block B on. -/
def Low (B : Nat) (v : Value) : Prop := ∀ a n c, v = .slice (some a) n c → 0 < n → B ≤ a.block
theorem low_ns {B : Nat} {w : World} {v : Value} {ss : List ByteArray} (h : Disk.NS B w v ss) : Low B v := by
  rintro a n c rfl hn
  obtain ⟨ao, cap, e, _⟩ := h.2.1
  injection e with e1 e2 e3
  subst e2
  exact h.2.2 a.block (by rw [Disk.rowOf, if_neg (by omega)]; rfl)
theorem low_nw {B : Nat} {w : World} {v : Value} {ws : List Disk.Wr} (h : Disk.NW B w v ws) : Low B v := by
  rintro a n c rfl hn
  obtain ⟨ao, cap, e, _⟩ := h.2.1
  injection e with e1 e2 e3
  subst e2
  exact h.2.2 a.block (by rw [Disk.rowOf, if_neg (by omega)]; rfl)
theorem low_at {B b n c o : Nat} (h : B ≤ b) : Low B (.slice (some ⟨b, o, none⟩) n c) := by
  intro a m k e _
  injection e with e1 _ _
  injection e1 with e1
  subst e1
  exact h

end Go.Proofs.YtjclpbaiiklhcaaGreatDoor

/- A drawing region in a round of a range over a function, by the laws of a region outside of one: where no operation defers. -/
namespace Go.Proofs.YtjclpbaiiklhcaaGreatDoor.Disk
open Go

/-- No operation of the region defers. -/
def noDefer (ops : Array Oper) : Bool := ops.toList.all fun o => match o.op with | .defer _ => false | _ => true

theorem noDefer_spec {ops : Array Oper} (h : noDefer ops = true) {i : Nat} {o : Oper} (ho : ops[i]? = some o) (c : Call) : o.op ≠ .defer c := by
  intro hc
  have hm : o ∈ ops.toList := by
    have h2 : ops.toList[i]? = some o := by simpa using ho
    exact List.mem_of_getElem? h2
  have h1 := List.all_eq_true.1 h o hm
  simp [hc] at h1

theorem wpOpIn_round {l n : Nat} {P : Program} {ops : Array Oper} {Q : Exit → Act → World → Prop} {i : Nat} {K : Act → World → Prop} {a : Act} {w : World}
    (hd : noDefer ops = true) (hL : ¬ LetsOut Q) (h : wpOp P ops Q i K a w) : wpOpIn (Fence.wide.inRound l) n P ops Q i K a w := by
  unfold wpOp at h
  unfold wpOpIn
  cases ho : ops[i]? with
  | none => simpa [ho] using h
  | some o =>
    simp only [ho] at h ⊢
    split
    · rename_i hw
      simp only [hw, if_true] at h
      rcases h with h | ⟨_, h⟩
      · refine ⟨fun _ _ => trivial, ?_⟩
        unfold Oper.wp at h
        rw [show (Fence.wide.inRound l).round = some l from rfl, Oper.semAt_some l _ o (fun c => noDefer_spec hd ho c)]
        generalize (execOp a.eval o).run P w = r at *
        cases r with
        | ok x w' =>
          cases x <;> simp only [Oper.upon, Oper.uponIn] at h ⊢
          case value => exact h
          case skip => exact h
          case defer => exact h
          case enter => exact ⟨fun hx => by simp [Fence.inRound, Fence.wide] at hx, CallsIn.inRound l (callsIn_wide.2 h)⟩
          case row => exact ⟨fun hx => by simp [Fence.inRound, Fence.wide] at hx, fun c cs _ => let ⟨v, w', r, s⟩ := h c cs; ⟨v, w', r, stepsIn_wide.2 s⟩⟩
        | halt x w' => cases x <;> simp only [Oper.upon, Oper.uponIn] at h ⊢ <;> exact h
      · exact absurd h hL
    · rename_i hw
      simp only [hw] at h
      exact ⟨fun _ _ => trivial, h⟩

theorem wpAnyIn_round {l n : Nat} {P : Program} {md : Region.Mode} {ops : Array Oper} {Q : Exit → Act → World → Prop} (hd : noDefer ops = true) (hL : ¬ LetsOut Q) :
    ∀ (fuel : Nat) (listed : Array Bool) (a : Act) (w : World), wpAny P md ops Q fuel listed a w → wpAnyIn (Fence.wide.inRound l) n P md ops Q fuel listed a w
  | 0, _, _, _, h => h
  | fuel + 1, _, _, _, h => ⟨h.1, fun i hi => wpOpIn_mono (fun a' w' h' => wpAnyIn_round hd hL fuel _ a' w' h') (wpOpIn_round hd hL (h.2 i hi))⟩

/-- The post of a region that comes to its end. -/
def Ends (R : Act → World → Prop) : Exit → Act → World → Prop
  | .normal, a, w => R a w
  | _, _, _ => False
theorem ends_panic {R : Act → World → Prop} {dst : Option Tmp} {v : Value} : ∀ (c : List PanicEntry) (a : Act) (w : World), Ends R (.panic c) (a.put dst v) w → Ends R (.panic c) a w := fun _ _ _ h => h
theorem ends_lets {R : Act → World → Prop} : ¬ LetsOut (Ends R) := fun ⟨_, _, h⟩ => h

theorem ends_done {R : Act → World → Prop} {a : Act} {w : World} (h : R a w) : Ends R .normal a w := h

/-- The beginning, in a round. -/
theorem wpIn_round_held {id l n : Nat} {P : Program} {ops : Array Oper} {Q : Exit → Act → World → Prop} {a : Act} {w : World} (S : World → Prop) (hm : P.follows .mixedOrders = true) (hd : noDefer ops = true) (hS : S w.drew)
    (h : S w.drew → wpAnyH P .any ops (Ends (Q .normal)) S ops.size (Array.replicate ops.size false) a w.drew) : (Code.region id ops true).wpIn (Fence.wide.inRound l) n P Q a w :=
  wpIn_mono (wpIn_region_any hm (wpAnyIn_round hd ends_lets _ _ _ _ (wpAny_of_held _ _ _ _ (h hS)))) (fun e a w q => by cases e <;> first | exact q | exact (q : False).elim)

/-- An operation that yields is taken first; the state behind it is laid out. -/
theorem take_at {P : Program} {ops : Array Oper} {R : Act → World → Prop} {S : World → Prop} {md : Region.Mode} (i d : Nat) {oi : Oper} {v : Value} {fuel : Nat} {listed : Array Bool} {T : Array Value} {D : List Deferred} {w : World} (hi : ops[i]? = some oi) (hd : oi.dst = some d)
    (hs : Region.noSelect ops = true) (hf : Region.free md ops listed i = true) (hr : (Region.ready md ops listed).contains i = true)
    (hw : Region.wanted oi (yielded ops T) = true) (hS : S w) (hy : ∀ w, S w → (execOp (Act.eval ⟨T, D⟩) oi).run P w = .ok (.value v) w)
    (h : wpAnyH P md ops (Ends R) S fuel (listed.setIfInBounds i true) ⟨T.setIfInBounds d v, D⟩ w) : wpAnyH P md ops (Ends R) S (fuel + 1) listed ⟨T, D⟩ w :=
  wpAnyH_take hi hs hf hr ends_panic (Or.inl ⟨hw, hy⟩) hS (by rw [hd]; exact h)

theorem wpOp_of {P : Program} {ops : Array Oper} {Q : Exit → Act → World → Prop} {i : Nat} {oi : Oper} {K : Act → World → Prop} {a : Act} {w : World} (hi : ops[i]? = some oi) (hw : Region.wanted oi (yielded ops a.tmps) = true) (h : oi.wp P a w K Q) : wpOp P ops Q i K a w := by
  unfold wpOp
  simp only [hi]
  rw [if_pos hw]
  exact .inl h

/-- The one operation that may come up yields a value. -/
theorem run_at {P : Program} {ops : Array Oper} {R : Act → World → Prop} {S : World → Prop} {md : Region.Mode} (i d : Nat) {oi : Oper} {v : Value} {fuel : Nat} {listed : Array Bool} {T : Array Value} {D : List Deferred} {w w' : World} (hi : ops[i]? = some oi) (hd : oi.dst = some d)
    (hr : Region.ready md ops listed = [i]) (hw : Region.wanted oi (yielded ops T) = true) (hy : (execOp (Act.eval ⟨T, D⟩) oi).run P w = .ok (.value v) w') (hS : S w')
    (h : wpAnyH P md ops (Ends R) S fuel (listed.setIfInBounds i true) ⟨T.setIfInBounds d v, D⟩ w') : wpAnyH P md ops (Ends R) S (fuel + 1) listed ⟨T, D⟩ w :=
  wpAnyH_all hr (by simp) fun j hj => by
    obtain rfl : j = i := by simpa using hj
    refine wpOp_of hi hw ?_
    unfold Oper.wp
    rw [hy]
    refine ⟨hS, ?_⟩
    rw [hd]
    exact h

/-- The one operation that may come up writes, and leaves no value. -/
theorem skip_at {P : Program} {ops : Array Oper} {R : Act → World → Prop} {S : World → Prop} {md : Region.Mode} (i : Nat) {oi : Oper} {fuel : Nat} {listed : Array Bool} {a : Act} {w w' : World} (hi : ops[i]? = some oi) (hd : oi.dst = none)
    (hr : Region.ready md ops listed = [i]) (hw : Region.wanted oi (yielded ops a.tmps) = true) (hy : (execOp a.eval oi).run P w = .ok .skip w') (hS : S w')
    (h : wpAnyH P md ops (Ends R) S fuel (listed.setIfInBounds i true) a w') : wpAnyH P md ops (Ends R) S (fuel + 1) listed a w :=
  wpAnyH_all hr (by simp) fun j hj => by
    obtain rfl : j = i := by simpa using hj
    refine wpOp_of hi hw ?_
    unfold Oper.wp
    rw [hy]
    refine ⟨hS, ?_⟩
    rw [hd]
    exact h

/-- The one operation that may come up calls. -/
theorem call_at {P : Program} {ops : Array Oper} {R : Act → World → Prop} {S : World → Prop} {md : Region.Mode} (i d : Nat) {oi : Oper} {f : FuncId} {args : Array Value} {fuel : Nat} {listed : Array Bool} {T : Array Value} {D : List Deferred} {w w0 : World} (hi : ops[i]? = some oi) (hd : oi.dst = some d)
    (hr : Region.ready md ops listed = [i]) (hw : Region.wanted oi (yielded ops T) = true) (hy : (execOp (Act.eval ⟨T, D⟩) oi).run P w = .ok (.enter f args) w0)
    (h : Calls P f args w0 fun e w' => ∃ v, e = .returned v ∧ S w' ∧ wpAnyH P md ops (Ends R) S fuel (listed.setIfInBounds i true) ⟨T.setIfInBounds d v, D⟩ w') : wpAnyH P md ops (Ends R) S (fuel + 1) listed ⟨T, D⟩ w :=
  wpAnyH_all hr (by simp) fun j hj => by
    obtain rfl : j = i := by simpa using hj
    refine wpOp_of hi hw ?_
    unfold Oper.wp
    rw [hy]
    refine h.mono ?_
    rintro e w' ⟨v, rfl, hS, h⟩
    refine ⟨hS, ?_⟩
    rw [hd]
    exact h

end Go.Proofs.YtjclpbaiiklhcaaGreatDoor.Disk

/- Regions that draw their order and end with a store (x = append(x, ..)): a condition on the world that holds till the last operation, which waits for all that is taken first. -/
namespace Go.Proofs.YtjclpbaiiklhcaaGreatDoor.Disk
open Go

section
variable {P : Program} {md : Region.Mode} {ops : Array Oper} {Q : Exit → Act → World → Prop} {R : Act → World → Prop} {S : World → Prop} {z : Nat}

/-- Whatever order is picked; S holds behind every operation but number z. -/
def wpAnyZ (P : Program) (md : Region.Mode) (ops : Array Oper) (Q : Exit → Act → World → Prop) (z : Nat) (S : World → Prop) : Nat → Array Bool → Act → World → Prop
  | 0, listed, a, w => Region.ready md ops listed = [] ∧ Q .normal a w
  | fuel + 1, listed, a, w =>
    (Region.ready md ops listed = [] → Q .normal a w) ∧
    ∀ i ∈ Region.ready md ops listed, wpOp P ops Q i (fun a' w' => (i = z ∨ S w') ∧ wpAnyZ P md ops Q z S fuel (listed.setIfInBounds i true) a' w') a w

theorem wpAny_of_Z : ∀ (fuel : Nat) (listed : Array Bool) (a : Act) (w : World), wpAnyZ P md ops Q z S fuel listed a w → wpAny P md ops Q fuel listed a w
  | 0, _, _, _, h => h
  | fuel + 1, _, _, _, h => ⟨h.1, fun i hi => wpOp_mono (fun a' w' h' => wpAny_of_Z fuel _ a' w' h'.2) (h.2 i hi)⟩

/-- Number z waits for number i, or there is no number z. -/
def waitsB (md : Region.Mode) (ops : Array Oper) (z i : Nat) : Bool := match ops[z]? with | none => true | some oz => oz.after.toList.any fun e => Region.binds md e && e.on == i

theorem not_z {listed : Array Bool} {i j : Nat} (hz : waitsB md ops z i = true) (hi : listed.getD i true = false) (hj : j ∈ Region.ready md ops listed) : j ≠ z := by
  rintro rfl
  obtain ⟨_, o, ho, hall⟩ := mem_ready.1 hj
  unfold waitsB at hz
  rw [ho] at hz
  obtain ⟨e, he, hb⟩ := List.any_eq_true.1 hz
  simp only [Bool.and_eq_true, beq_iff_eq] at hb
  have h1 := hall e (by simpa using he) hb.1
  rw [hb.2] at h1
  rcases Nat.lt_or_ge i listed.size with h' | h'
  · simp [h'] at hi h1; rw [hi] at h1; cases h1
  · simp [Array.getElem?_eq_none h'] at h1

theorem wpAnyZ_first {i : Nat} {oi : Oper} {v : Value} (hi : ops[i]? = some oi) (hz : waitsB md ops z i = true) (hsel : ∀ (j : Nat) (o : Oper) cs b, ops[j]? = some o → o.op ≠ .select cs b)
    (hQ : ∀ c a w, Q (.panic c) (a.put oi.dst v) w → Q (.panic c) a w) :
    ∀ (fuel : Nat) (listed : Array Bool) (a : Act) (w : World),
      (∀ j oj, ops[j]? = some oj → j ≠ i → listed.getD j true = false → (∀ e ∈ oj.after, Region.binds md e = true → e.on ≠ i) → oi.apart ops oj = true) →
      i ∈ Region.ready md ops listed → YieldsIf P ops S oi v a → S w →
      wpAnyZ P md ops Q z S fuel (listed.setIfInBounds i true) (a.put oi.dst v) w → wpAnyZ P md ops Q z S (fuel + 1) listed a w := by
  intro fuel
  induction fuel with
  | zero =>
    intro listed a w _ hr hy hS H
    refine ⟨fun h => (by rw [h] at hr; cases hr), fun j hj => ?_⟩
    by_cases hji : j = i
    · subst hji; exact hy.wpOp hi hS ⟨.inr hS, H⟩
    · have h1 := ready_mono hj hji
      rw [H.1] at h1
      cases h1
  | succ fuel ih =>
    intro listed a w hfree hr hy hS H
    refine ⟨fun h => (by rw [h] at hr; cases hr), fun j hj => ?_⟩
    by_cases hji : j = i
    · subst hji; exact hy.wpOp hi hS ⟨.inr hS, H⟩
    · have h1 := H.2 j (ready_mono hj hji)
      have hun : listed.getD i true = false := (mem_ready.1 hr).1
      have hjz : j ≠ z := not_z hz hun hj
      obtain ⟨hjun, oj, hoj, hall⟩ := mem_ready.1 hj
      have hnot : ∀ e ∈ oj.after, Region.binds md e = true → e.on ≠ i := fun e he hb heq => by
        have h2 := hall e he hb
        rw [heq] at h2
        rcases Nat.lt_or_ge i listed.size with h' | h'
        · simp [h'] at hun h2; rw [hun] at h2; cases h2
        · simp [Array.getElem?_eq_none h'] at h2
      have h2 := wpOp_putIf hoj (hfree j oj hoj hji hjun hnot) (fun cs b => hsel i oi cs b hi) (fun cs b => hsel j oj cs b hoj) hQ hy h1
      refine wpOp_mono (fun a' w' h3 => ?_) h2
      have hS' : S w' := h3.2.1.resolve_left hjz
      refine ⟨.inr hS', ih (listed.setIfInBounds j true) a' w' (fun k ok hk hki hu hno => ?_) (ready_mono hr (Ne.symm hji)) h3.1 hS' ?_⟩
      · refine hfree k ok hk hki ?_ hno
        by_cases hjk : j = k
        · subst hjk; exact hjun
        · rw [Go.getD_set_ne true hjk] at hu; exact hu
      · rw [Array.setIfInBounds_comm _ _ hji]
        exact h3.2.2

theorem z_done {listed : Array Bool} {a : Act} {w : World} (hr : Region.ready md ops listed = []) (h : R a w) : ∀ fuel, wpAnyZ P md ops (Ends R) z S fuel listed a w
  | 0 => ⟨hr, h⟩
  | _ + 1 => ⟨fun _ => h, by rw [hr]; simp⟩

/-- An operation that yields is taken first. -/
theorem z_take (i d : Nat) {oi : Oper} {v : Value} {fuel : Nat} {listed : Array Bool} {T : Array Value} {D : List Deferred} {w : World} (hi : ops[i]? = some oi) (hd : oi.dst = some d)
    (hz : waitsB md ops z i = true) (hs : Region.noSelect ops = true) (hf : Region.free md ops listed i = true) (hr : (Region.ready md ops listed).contains i = true)
    (hw : Region.wanted oi (yielded ops T) = true) (hS : S w) (hy : ∀ w, S w → (execOp (Act.eval ⟨T, D⟩) oi).run P w = .ok (.value v) w)
    (h : wpAnyZ P md ops (Ends R) z S fuel (listed.setIfInBounds i true) ⟨T.setIfInBounds d v, D⟩ w) : wpAnyZ P md ops (Ends R) z S (fuel + 1) listed ⟨T, D⟩ w :=
  wpAnyZ_first hi hz (Region.noSelect_spec hs) ends_panic fuel listed _ w (Region.free_spec hi hf) (by simpa using hr) (Or.inl ⟨hw, hy⟩) hS (by rw [hd]; exact h)

theorem z_all {i fuel : Nat} {listed : Array Bool} {a : Act} {w : World} (hr : Region.ready md ops listed = [i])
    (h : wpOp P ops Q i (fun a' w' => (i = z ∨ S w') ∧ wpAnyZ P md ops Q z S fuel (listed.setIfInBounds i true) a' w') a w) : wpAnyZ P md ops Q z S (fuel + 1) listed a w := by
  refine ⟨fun h0 => (by rw [hr] at h0; cases h0), fun j hj => ?_⟩
  rw [hr] at hj
  obtain rfl : j = i := by simpa using hj
  exact h

/-- The one operation that may come up yields a value. -/
theorem z_run (i d : Nat) {oi : Oper} {v : Value} {fuel : Nat} {listed : Array Bool} {T : Array Value} {D : List Deferred} {w w' : World} (hi : ops[i]? = some oi) (hd : oi.dst = some d)
    (hr : Region.ready md ops listed = [i]) (hw : Region.wanted oi (yielded ops T) = true) (hy : (execOp (Act.eval ⟨T, D⟩) oi).run P w = .ok (.value v) w') (hS : i = z ∨ S w')
    (h : wpAnyZ P md ops (Ends R) z S fuel (listed.setIfInBounds i true) ⟨T.setIfInBounds d v, D⟩ w') : wpAnyZ P md ops (Ends R) z S (fuel + 1) listed ⟨T, D⟩ w :=
  z_all hr (by
    refine wpOp_of hi hw ?_
    unfold Oper.wp
    rw [hy]
    refine ⟨hS, ?_⟩
    rw [hd]
    exact h)

/-- The one operation that may come up writes, and leaves no value. -/
theorem z_skip (i : Nat) {oi : Oper} {fuel : Nat} {listed : Array Bool} {a : Act} {w w' : World} (hi : ops[i]? = some oi) (hd : oi.dst = none)
    (hr : Region.ready md ops listed = [i]) (hw : Region.wanted oi (yielded ops a.tmps) = true) (hy : (execOp a.eval oi).run P w = .ok .skip w') (hS : i = z ∨ S w')
    (h : wpAnyZ P md ops (Ends R) z S fuel (listed.setIfInBounds i true) a w') : wpAnyZ P md ops (Ends R) z S (fuel + 1) listed a w :=
  z_all hr (by
    refine wpOp_of hi hw ?_
    unfold Oper.wp
    rw [hy]
    refine ⟨hS, ?_⟩
    rw [hd]
    exact h)

/-- The one operation that may come up calls. -/
theorem z_call (i d : Nat) {oi : Oper} {f : FuncId} {args : Array Value} {fuel : Nat} {listed : Array Bool} {T : Array Value} {D : List Deferred} {w w0 : World} (hi : ops[i]? = some oi) (hd : oi.dst = some d)
    (hr : Region.ready md ops listed = [i]) (hw : Region.wanted oi (yielded ops T) = true) (hy : (execOp (Act.eval ⟨T, D⟩) oi).run P w = .ok (.enter f args) w0)
    (h : Calls P f args w0 fun e w' => ∃ v, e = .returned v ∧ (i = z ∨ S w') ∧ wpAnyZ P md ops (Ends R) z S fuel (listed.setIfInBounds i true) ⟨T.setIfInBounds d v, D⟩ w') : wpAnyZ P md ops (Ends R) z S (fuel + 1) listed ⟨T, D⟩ w :=
  z_all hr (by
    refine wpOp_of hi hw ?_
    unfold Oper.wp
    rw [hy]
    refine h.mono ?_
    rintro e w' ⟨v, rfl, hS, h⟩
    refine ⟨hS, ?_⟩
    rw [hd]
    exact h)

/-- The beginning: in a round, in a function that has rounds, and elsewhere. -/
theorem z_round {id l n : Nat} {a : Act} {w : World} (z : Nat) (S : World → Prop) (hm : P.follows .mixedOrders = true) (hd : noDefer ops = true) (hS : S w.drew)
    (h : S w.drew → wpAnyZ P .any ops (Ends (Q .normal)) z S ops.size (Array.replicate ops.size false) a w.drew) : (Code.region id ops true).wpIn (Fence.wide.inRound l) n P Q a w :=
  wpIn_mono (wpIn_region_any hm (wpAnyIn_round hd ends_lets _ _ _ _ (wpAny_of_Z _ _ _ _ (h hS)))) (fun e a w q => by cases e <;> first | exact q | exact (q : False).elim)

theorem z_plain {id : Nat} {a : Act} {w : World} (z : Nat) (S : World → Prop) (hm : P.follows .mixedOrders = true) (hS : S w.drew)
    (h : S w.drew → wpAnyZ P .any ops (Ends (Q .normal)) z S ops.size (Array.replicate ops.size false) a w.drew) : (Code.region id ops true).wp P Q a w :=
  Code.wp_mono (fun e a w q => by cases e <;> first | exact q | exact (q : False).elim) (wp_region_any hm (wpAny_of_Z _ _ _ _ (h hS)))

theorem z_wide {id n : Nat} {a : Act} {w : World} (z : Nat) (S : World → Prop) (hm : P.follows .mixedOrders = true) (hS : S w.drew)
    (h : S w.drew → wpAnyZ P .any ops (Ends (Q .normal)) z S ops.size (Array.replicate ops.size false) a w.drew) : (Code.region id ops true).wpIn Fence.wide n P Q a w :=
  wpIn_wide.2 (z_plain z S hm hS h)

end
end Go.Proofs.YtjclpbaiiklhcaaGreatDoor.Disk
