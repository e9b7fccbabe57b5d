
import Derived.Test.YtboiknllmnfipaaDoorZU6
import Derived.Test.YtboiknllmnfipaaDoorZU13
import Derived.Test.YtboiknllmnfipaaDoorZLGw
import Derived.Test.YtboiknllmnfipaaDoorZLSame2
import Derived.Test.YtboiknllmnfipaaDoorZGSame3
import Derived.HandedShaped
import Derived.Stop.LaidTwo
import Derived.RowKitTokens
import Derived.Below
import Derived.Stop.Joined
/- Theory of FnHeaps: the headers of a right heap, the sum of its objects' sizes, a new heap is right; likeInts. -/
namespace Go.Proofs.YtboiknllmnfipaaDoor
open Go.RowKit

theorem rise {l : List Nat} (so : l.Pairwise (· < ·)) {k : Nat} (h : k + 1 < l.length) : l.getD k 0 < l.getD (k + 1) 0 := by
  have := List.pairwise_iff_getElem.1 so k (k + 1) (by omega) h (by omega)
  simpa [List.getD_eq_getElem?_getD, List.getElem?_eq_getElem h, List.getElem?_eq_getElem (show k < l.length by omega)] using this
end Go.Proofs.YtboiknllmnfipaaDoor

/- The law FnGraphs, walked, upon what its draw answers. -/
namespace Go.Proofs.YtboiknllmnfipaaDoor
open Go.RowKit

theorem grEq_iff' (a b : Gr) : grEq a b = true ↔ a = b := by
  unfold grEq
  rw [Bool.and_eq_true, Bool.and_eq_true, decide_eq_true_eq, decide_eq_true_eq]
  constructor
  · rintro ⟨h1, h2, h3⟩
    have h4 : a.nodes = b.nodes := @of_decide_eq_true _ (Classical.propDecidable _) h3
    cases a
    cases b
    simp_all
  · rintro rfl
    exact ⟨rfl, rfl, nsEq_yes rfl⟩
theorem grEq_comm (a b : Gr) : grEq a b = grEq b a := by
  by_cases h : a = b
  · subst h
    rfl
  · have h1 : grEq a b = false := by
      cases q : grEq a b
      · rfl
      · exact absurd ((grEq_iff' _ _).1 q) h
    have h2 : grEq b a = false := by
      cases q : grEq b a
      · rfl
      · exact absurd ((grEq_iff' _ _).1 q).symm h
    rw [h1, h2]
theorem grEq_self (a : Gr) : grEq a a = true := (grEq_iff' _ _).2 rfl
/-- As Gsm, with room for a root more. -/
def Gsb (g : Gr) : Prop := g.roots.length ≤ 2000 ∧ g.nodes.length ≤ 10000 ∧ ns64 g.nodes
theorem Gsm.b {g : Gr} (h : Gsm g) : Gsb g := ⟨by have := h.1; omega, h.2⟩
/-- What the draw of two graphs answers. -/
def DrawnGG (w : World) (x : Ending) (w' : World) : Prop := (∃ v u a b, x = .returned (.tuple #[v, u]) ∧ GR w' v a ∧ GR w' u b ∧ Gsb a ∧ Gsb b) ∧ Below w.heap.size w w'

set_option maxRecDepth 100000 in
set_option maxHeartbeats 6400000 in
theorem lawGraphs_of (cv : Value) (cs : List UInt8) (w : World) (hc : BR w cv cs) (ht : GTb w) (DS : cs.length ≤ 4096 → Calls Tryd.prog 5 #[cv] w fun x w' => DrawnGG w x w') :
    Calls Tryd.prog 3 #[cv] w fun x w' => x = .returned (.bool true) ∧ Below w.heap.size w w' := by
  have BG := big_any cv cs w hc
  by_cases hbig : 4096 < cs.length
  · rw [decide_eq_true hbig] at BG
    go_enter Tryd.func3, Tryd.ntmps3
    go_wp2_with (go_at_call 4; refine BG.mono ?_; rintro x w' ⟨rfl, rfl⟩)
    go_ret
    exact ⟨rfl, Below.refl _ _⟩
  rw [decide_eq_false hbig] at BG
  have DH := DS (by omega)
  go_enter Tryd.func3, Tryd.ntmps3
  go_wp2_with fail
  refine BG.mono ?_
  rintro x w0 ⟨rfl, rfl⟩
  clear BG DS
  go_wp2_with fail
  refine DH.mono ?_
  rintro x w1 ⟨⟨v, u, a, b, rfl, ga, gb, ma, mb⟩, hb1⟩
  clear DH
  have ht1 := ht.later hb1
  obtain ⟨ra, rc, na, nc, rfl, -, -⟩ := id ga.out
  obtain ⟨sa', sc, ma', mc, rfl, -, -⟩ := id gb.out
  obtain ⟨R2, Q2, bl⟩ := gboxes w1 (.slice ra a.roots.length rc) (.slice na a.nodes.length nc) (.slice sa' b.roots.length sc) (.slice ma' b.nodes.length mc) a.hash b.hash 27
  have ga2 := ga.later bl
  have gb2 := gb.later bl
  have ht2 := ht1.later bl
  have B2 := bel_after hb1 bl
  have la : a.roots.length ≤ 1000000000 ∧ a.nodes.length ≤ 1000000000 := ⟨by have := ma.1; omega, by have := ma.2.1; omega⟩
  have lb : b.roots.length ≤ 1000000000 ∧ b.nodes.length ≤ 1000000000 := ⟨by have := mb.1; omega, by have := mb.2.1; omega⟩
  have sa : ns64 a.nodes := ma.2.2
  have sb : ns64 b.nodes := mb.2.2
  have fa : ∀ n, n ∈ a.nodes → n.fl.length ≤ 1000000000 := fun n hn => by have := (sa n hn).2; omega
  have fb : ∀ n, n ∈ b.nodes → n.fl.length ≤ 1000000000 := fun n hn => by have := (sb n hn).2; omega
  clear ga gb ht1 bl hb1 ma mb
  have I1 := fun W hv hu ht => implSameGraph_any (.agg #[.slice ra a.roots.length rc, .slice na a.nodes.length nc, .int .i64 a.hash]) (.agg #[.slice sa' b.roots.length sc, .slice ma' b.nodes.length mc, .int .i64 b.hash]) a b W hv hu la lb.1 sa sb ht
  have I2 := fun W hv hu => specSameGraph_any (.agg #[.slice ra a.roots.length rc, .slice na a.nodes.length nc, .int .i64 a.hash]) (.agg #[.slice sa' b.roots.length sc, .slice ma' b.nodes.length mc, .int .i64 b.hash]) a b W hv hu la lb.1 fa fb
  have I3 := fun W hv hu ht => implSameGraph_any (.agg #[.slice sa' b.roots.length sc, .slice ma' b.nodes.length mc, .int .i64 b.hash]) (.agg #[.slice ra a.roots.length rc, .slice na a.nodes.length nc, .int .i64 a.hash]) b a W hv hu lb la.1 sb sa ht
  have I4 := fun W hv hu ht => implSameGraph_any (.agg #[.slice ra a.roots.length rc, .slice na a.nodes.length nc, .int .i64 a.hash]) (.agg #[.slice ra a.roots.length rc, .slice na a.nodes.length nc, .int .i64 a.hash]) a a W hv hu la la.1 sa sa ht
  have I5 := fun W hv hu => likeGraph2_any (.agg #[.slice ra a.roots.length rc, .slice na a.nodes.length nc, .int .i64 a.hash]) (.agg #[.slice sa' b.roots.length sc, .slice ma' b.nodes.length mc, .int .i64 b.hash]) a b W hv hu la lb.1 fa fb
  rw [grEq_comm b a] at I3
  rw [grEq_self a] at I4
  clear la lb sa sb fa fb
  generalize hw2 : (w1.alloc (.cells #[.slice ra a.roots.length rc, .slice na a.nodes.length nc, .int .i64 a.hash] 27)).alloc (.cells #[.slice sa' b.roots.length sc, .slice ma' b.nodes.length mc, .int .i64 b.hash] 27) = w2 at *
  cases hE : grEq a b
  · rw [hE] at I1 I2 I3 I5
    obtain ⟨a0, a1, a2⟩ := gr3_cells R2
    obtain ⟨b0, b1, b2⟩ := gr3_cells Q2
    go_wp2_with fail
    refine (I1 _ ga2 gb2 ht2).mono ?_
    rintro x w3 ⟨rfl, hb3⟩
    have R3 := R2.of_block (hb3.block _ R2.lt)
    have Q3 := Q2.of_block (hb3.block _ Q2.lt)
    have ga3 := ga2.later hb3
    have gb3 := gb2.later hb3
    have ht3 := ht2.later hb3
    have B3 := bel_after B2 hb3
    clear R2 Q2 ga2 gb2 ht2 B2 hb3 a0 a1 a2 b0 b1 b2
    obtain ⟨a0, a1, a2⟩ := gr3_cells R3
    obtain ⟨b0, b1, b2⟩ := gr3_cells Q3
    go_wp2_with fail
    refine (I2 _ ga3 gb3).mono ?_
    rintro x w4 ⟨rfl, hb4⟩
    have R4 := R3.of_block (hb4.block _ R3.lt)
    have Q4 := Q3.of_block (hb4.block _ Q3.lt)
    have ga4 := ga3.later hb4
    have gb4 := gb3.later hb4
    have ht4 := ht3.later hb4
    have B4 := bel_after B3 hb4
    clear R3 Q3 ga3 gb3 ht3 B3 hb4 a0 a1 a2 b0 b1 b2
    obtain ⟨a0, a1, a2⟩ := gr3_cells R4
    obtain ⟨b0, b1, b2⟩ := gr3_cells Q4
    go_wp2_with fail
    refine (I3 _ gb4 ga4 ht4).mono ?_
    rintro x w5 ⟨rfl, hb5⟩
    have R5 := R4.of_block (hb5.block _ R4.lt)
    have Q5 := Q4.of_block (hb5.block _ Q4.lt)
    have ga5 := ga4.later hb5
    have gb5 := gb4.later hb5
    have ht5 := ht4.later hb5
    have B5 := bel_after B4 hb5
    clear R4 Q4 ga4 gb4 ht4 B4 hb5 a0 a1 a2 b0 b1 b2
    obtain ⟨a0, a1, a2⟩ := gr3_cells R5
    obtain ⟨b0, b1, b2⟩ := gr3_cells Q5
    go_wp2_with fail
    refine (I4 _ ga5 ga5 ht5).mono ?_
    rintro x w6 ⟨rfl, hb6⟩
    have R6 := R5.of_block (hb6.block _ R5.lt)
    have Q6 := Q5.of_block (hb6.block _ Q5.lt)
    have ga6 := ga5.later hb6
    have gb6 := gb5.later hb6
    have ht6 := ht5.later hb6
    have B6 := bel_after B5 hb6
    clear R5 Q5 ga5 gb5 ht5 B5 hb6 a0 a1 a2 b0 b1 b2
    obtain ⟨a0, a1, a2⟩ := gr3_cells R6
    obtain ⟨b0, b1, b2⟩ := gr3_cells Q6
    go_wp2_with fail
    refine (I5 _ ga6 gb6).mono ?_
    rintro x w7 ⟨rfl, hb7⟩
    have R7 := R6.of_block (hb7.block _ R6.lt)
    have Q7 := Q6.of_block (hb7.block _ Q6.lt)
    have ga7 := ga6.later hb7
    have gb7 := gb6.later hb7
    have ht7 := ht6.later hb7
    have B7 := bel_after B6 hb7
    clear R6 Q6 ga6 gb6 ht6 B6 hb7 a0 a1 a2 b0 b1 b2
    go_wp2
    go_ret
    exact ⟨rfl, B7⟩
  · rw [hE] at I1 I2 I3 I5
    obtain ⟨a0, a1, a2⟩ := gr3_cells R2
    obtain ⟨b0, b1, b2⟩ := gr3_cells Q2
    go_wp2_with fail
    refine (I1 _ ga2 gb2 ht2).mono ?_
    rintro x w3 ⟨rfl, hb3⟩
    have R3 := R2.of_block (hb3.block _ R2.lt)
    have Q3 := Q2.of_block (hb3.block _ Q2.lt)
    have ga3 := ga2.later hb3
    have gb3 := gb2.later hb3
    have ht3 := ht2.later hb3
    have B3 := bel_after B2 hb3
    clear R2 Q2 ga2 gb2 ht2 B2 hb3 a0 a1 a2 b0 b1 b2
    obtain ⟨a0, a1, a2⟩ := gr3_cells R3
    obtain ⟨b0, b1, b2⟩ := gr3_cells Q3
    go_wp2_with fail
    refine (I2 _ ga3 gb3).mono ?_
    rintro x w4 ⟨rfl, hb4⟩
    have R4 := R3.of_block (hb4.block _ R3.lt)
    have Q4 := Q3.of_block (hb4.block _ Q3.lt)
    have ga4 := ga3.later hb4
    have gb4 := gb3.later hb4
    have ht4 := ht3.later hb4
    have B4 := bel_after B3 hb4
    clear R3 Q3 ga3 gb3 ht3 B3 hb4 a0 a1 a2 b0 b1 b2
    obtain ⟨a0, a1, a2⟩ := gr3_cells R4
    obtain ⟨b0, b1, b2⟩ := gr3_cells Q4
    go_wp2_with fail
    refine (I3 _ gb4 ga4 ht4).mono ?_
    rintro x w5 ⟨rfl, hb5⟩
    have R5 := R4.of_block (hb5.block _ R4.lt)
    have Q5 := Q4.of_block (hb5.block _ Q4.lt)
    have ga5 := ga4.later hb5
    have gb5 := gb4.later hb5
    have ht5 := ht4.later hb5
    have B5 := bel_after B4 hb5
    clear R4 Q4 ga4 gb4 ht4 B4 hb5 a0 a1 a2 b0 b1 b2
    obtain ⟨a0, a1, a2⟩ := gr3_cells R5
    obtain ⟨b0, b1, b2⟩ := gr3_cells Q5
    go_wp2_with fail
    refine (I4 _ ga5 ga5 ht5).mono ?_
    rintro x w6 ⟨rfl, hb6⟩
    have R6 := R5.of_block (hb6.block _ R5.lt)
    have Q6 := Q5.of_block (hb6.block _ Q5.lt)
    have ga6 := ga5.later hb6
    have gb6 := gb5.later hb6
    have ht6 := ht5.later hb6
    have B6 := bel_after B5 hb6
    clear R5 Q5 ga5 gb5 ht5 B5 hb6 a0 a1 a2 b0 b1 b2
    obtain ⟨a0, a1, a2⟩ := gr3_cells R6
    obtain ⟨b0, b1, b2⟩ := gr3_cells Q6
    go_wp2_with fail
    refine (I5 _ ga6 gb6).mono ?_
    rintro x w7 ⟨rfl, hb7⟩
    have R7 := R6.of_block (hb7.block _ R6.lt)
    have Q7 := Q6.of_block (hb7.block _ Q6.lt)
    have ga7 := ga6.later hb7
    have gb7 := gb6.later hb7
    have ht7 := ht6.later hb7
    have B7 := bel_after B6 hb7
    clear R6 Q6 ga6 gb6 ht6 B6 hb7 a0 a1 a2 b0 b1 b2
    go_wp2
    go_ret
    exact ⟨rfl, B7⟩

end Go.Proofs.YtboiknllmnfipaaDoor

/- A builder that keeps both what is listed of the variables and the world's shape; lists with one left out; four variables read. -/
namespace Go.Proofs.YtboiknllmnfipaaDoor
open Go Go.RowKit Go.ChangeShapes
variable {H : Type} {enc : TypeId × Value → H}

theorem handed_both {a : Assume} {C : Checked} {os : Os} {f : FuncId} {fn : Func} {s : ChangeSpec} {conds : List PathCond} {apart fresh handsOn again : Bool} {X : World → Array Value → Prop}
    (hX : ∀ (w w' : World) (args : Array Value), w.heap = w'.heap → X w args → X w' args)
    (own : ownKnob C.prog.godebug = none) (started : os.Started) (noInit : C.prog.inits.idxOf? f = none) (hfn : C.prog.funcs[f]? = some fn)
    (witness : ∃ (w : World) (tape : Tape) (i : Input), w.os = os ∧ (w.forCall tape i).Shaped C.prog ∧ i.vars = [] ∧ Input.okWide C.prog (w.forCall tape i) .any w.heap.size f i ∧
      ((s.pre enc C.prog fn conds apart (w.forCall tape i).memory i.args ∧ X (w.forCall tape i).memory i.args) ∧ sizedMet enc C.prog fn (OpenSpec.ofChange s) apart (w.forCall tape i).memory i.args) ∧ a.holds C.prog (lone (Frame.enter C.prog f i.args .normal) [] (w.forCall tape i)))
    (contract : ∀ (W : World) (base : Nat) (args : Array Value) (ds gs : List (DataW H)) (before : List MemPlace),
      (∀ (j : Nat) t v, fn.params[j]? = some t → args[j]? = some v → Value.okWide C.prog W .any base t v) →
      DataW.Whole enc C.prog fn.params.toList s.vars apart W args.toList ds gs before →
      conds.all (PathCond.test C.prog ⟨fn.params.toList, ds, s.plain.varTypes C.prog, gs⟩) = true →
      (DataW.weightsEach C.prog (fn.params.toList ++ s.plain.varTypes C.prog) (ds ++ gs)).all (· ≤ reachBytes) = true → X W args → W.ShapedOpen C.prog →
      a.holds C.prog (lone (Frame.enter C.prog f args .normal) [] W) →
      Calls C.prog f args W fun e W' => ∃ v, e = .returned v ∧ s.post enc C.prog fn apart fresh handsOn again W args v W') :
    ReturnsInHanded a C os f .any (fun w args => (s.pre enc C.prog fn conds apart w args ∧ X w args) ∧ sizedMet enc C.prog fn (OpenSpec.ofChange s) apart w args) (s.post enc C.prog fn apart fresh handsOn again) := by
  refine returnsInHanded_of_calls own started noInit witness ?_
  intro w tape i _ hsh _ hok hpre hholds
  obtain ⟨_, _, _, fn', hfn', _, _, _, _, hval⟩ := hok
  have e : fn' = fn := Option.some.inj (hfn'.symm.trans hfn)
  subst e
  obtain ⟨⟨⟨ds, gs, before, hw, hc⟩, hx⟩, hz⟩ := hpre
  have hw' := DataW.Whole.of_heap (w' := w.forCall tape i) (by rfl) hw
  refine (contract (w.forCall tape i) w.heap.size i.args ds gs before hval hw' hc (hz.weights hw) (hX _ _ _ (by rfl) hx) hsh hholds).mono fun e W' ⟨v, he, hp⟩ => ?_
  subst he
  exact ChangeSpec.post_blind hp

end Go.Proofs.YtboiknllmnfipaaDoor
