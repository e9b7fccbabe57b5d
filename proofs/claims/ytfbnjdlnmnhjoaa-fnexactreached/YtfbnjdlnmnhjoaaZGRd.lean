/- Graphs as they are read, and the parts of one that is being made. -/
import Derived.Test.YtfbnjdlnmnhjoaaZGTold
import Derived.Test.YtfbnjdlnmnhjoaaZGrK
namespace Go.Proofs.Ytfbnjdlnmnhjoaa
open Go.RowKit

theorem gr_set0 {w : World} {b t : Nat} {rv nv : Value} {hh : Int} (h : w.rowIs b t 3 (grF rv nv hh)) (u : Value) : (w.setCell ⟨b, 0, none⟩ u).rowIs b t 3 (grF u nv hh) :=
  (h.set 0 u).congr fun i _ => by unfold grF; by_cases e : i = 0 <;> simp [e]
theorem gr_set1 {w : World} {b t : Nat} {rv nv : Value} {hh : Int} (h : w.rowIs b t 3 (grF rv nv hh)) (u : Value) : (w.setCell ⟨b, 1, none⟩ u).rowIs b t 3 (grF rv u hh) :=
  (h.set 1 u).congr fun i _ => by
    unfold grF
    by_cases e : i = 1
    · simp [e]
    · by_cases e0 : i = 0
      · simp [e0]
      · simp [e, e0]
def ndF (c z : Int) (f : Value) (i : Nat) : Value := if i = 0 then .int .i64 c else if i = 1 then .int .i64 z else f
theorem nd_set2 {w : World} {b t : Nat} {c z : Int} {f : Value} (h : w.rowIs b t 3 (ndF c z f)) (u : Value) : (w.setCell ⟨b, 2, none⟩ u).rowIs b t 3 (ndF c z u) :=
  (h.set 2 u).congr fun i hi => by
    unfold ndF
    by_cases e : i = 2
    · simp [e]
    · rw [if_neg e]
      by_cases e0 : i = 0
      · simp [e0]
      · by_cases e1 : i = 1
        · simp [e1]
        · omega

/-- A graph in the making: its roots come. -/
structure Sh1 (N : Nat) (W0 wr : World) (hh : Int) (o : List Nat) (rl : List Int) (ov rv : Value) : Prop where
  bel : Below (N + 2) W0 wr
  sz : N + 5 ≤ wr.heap.size
  num : wr.rowIs (N + 2) 2 3200 (nmF o)
  ord : wr.ownsRow (N + 3) 2 1 ov o.length (icells (ints o))
  ordg : ov.ownBlock ≠ some (N + 4)
  g : wr.rowIs (N + 4) 43 3 (grF rv (.slice none 0 0) hh)
  rt : wr.ownsRow (N + 5) 2 1 rv rl.length (icells rl)
  ap : ∀ b, rv.ownBlock = some b → ov.ownBlock ≠ some b

theorem Sh1.told {N : Nat} {W0 wr w1 : World} {hh : Int} {o o1 : List Nat} {rl : List Int} {ov rv ov1 : Value} (s : Sh1 N W0 wr hh o rl ov rv)
    (r : w1.rowIs (N + 2) 2 3200 (nmF o1)) (ho : w1.ownsRow (N + 3) 2 1 ov1 o1.length (icells (ints o1))) (hl : ov1.ownBlock = ov.ownBlock ∨ ∃ b, ov1.ownBlock = some b ∧ wr.heap.size ≤ b)
    (g : Grew wr w1 (fun k => k = N + 2 ∨ ov.ownBlock = some k)) : Sh1 N W0 w1 hh o1 rl ov1 rv := by
  have hsz := s.sz
  have ob := s.ord.lt
  have rb := s.rt.lt
  refine ⟨s.bel.trans (g.below (by omega) fun b _ q => ?_), Nat.le_trans s.sz g.size, r, ho, ?_, g.row s.g ?_, g.own s.rt ?_, ?_⟩
  · rcases q with q | q
    · omega
    · have := (ob b q).1; omega
  · rcases hl with e | ⟨b, e, hb⟩
    · rw [e]; exact s.ordg
    · rw [e]; simp; omega
  · rintro (q | q)
    · omega
    · exact s.ordg q
  · rintro b e (q | q)
    · have := (rb b e).1; omega
    · exact s.ap b e q
  · intro b e
    have := (rb b e).2
    rcases hl with q | ⟨b', q, hb⟩
    · rw [q]; exact s.ap b e
    · rw [q]; simp; omega
/-- A root comes behind the others. -/
theorem Sh1.root {N : Nat} {W0 wr w2 w3 : World} {hh : Int} {o : List Nat} {rl : List Int} {ov rv rv1 : Value} {x : Int} (s : Sh1 N W0 wr hh o rl ov rv) (a : Below wr.heap.size wr w2)
    (ho : w3.ownsRow (N + 5) 2 1 rv1 (rl.length + 1) (icells rl ++ [.int .i64 x])) (g : w2.grownBy w3 rv.ownBlock) (hl : rv1.ownBlock = rv.ownBlock ∨ rv1.ownBlock = some w2.heap.size) :
    Sh1 N W0 (w3.setCell ⟨N + 4, 0, none⟩ rv1) hh o (rl ++ [x]) ov rv1 := by
  have hsz := s.sz
  have ob := s.ord.lt
  have rb := s.rt.lt
  have az := a.size
  have G1 : Grew wr w3 (fun k => rv.ownBlock = some k) := (Grew.new a _).trans (Grew.grown g)
  have gg := G1.row s.g (fun q => by have := (rb _ q).1; omega)
  have G2 := Grew.set w3 (N + 4) 0 rv1
  have ne4 : ∀ b, rv1.ownBlock = some b → b ≠ N + 4 := fun b e => by have := (ho.lt b e).1; omega
  refine ⟨(s.bel.trans (G1.below (by omega) fun b _ q => by have := (rb b q).1; omega)).trans (G2.below (by have := G1.size; omega) fun b _ q => by omega), ?_, ?_, ?_, s.ordg, gr_set0 gg rv1, ?_, ?_⟩
  · have := G1.size; have := G2.size; omega
  · exact G2.row (G1.row s.num (fun q => by have := (rb _ q).1; omega)) (by omega)
  · exact G2.own (G1.own s.ord (fun b e q => s.ap b q e)) (fun b e q => s.ordg (by rw [e, q]))
  · have := G2.own ho ne4
    simpa [icells] using this
  · intro b e q
    have := (ob b q).2
    rcases hl with k | k
    · exact s.ap b (by rw [← k]; exact e) q
    · rw [k] at e; simp at e; omega

/-- A graph in the making: its nodes come. K: the blocks of what is done. -/
structure Sh2 (N : Nat) (W0 wr : World) (hh : Int) (o : List Nat) (rl : List Int) (ns : List Nd) (ov rv nv : Value) (K : Nat → Prop) : Prop where
  bel : Below (N + 2) W0 wr
  sz : N + 5 ≤ wr.heap.size
  num : wr.rowIs (N + 2) 2 3200 (nmF o)
  ord : wr.ownsRow (N + 3) 2 1 ov o.length (icells (ints o))
  ordg : ov.ownBlock ≠ some (N + 4)
  g : wr.rowIs (N + 4) 43 3 (grF rv nv hh)
  nd : NK (N + 5) wr nv ns K
  ndb : ∀ b, nv.ownBlock = some b → N + 5 ≤ b ∧ b < wr.heap.size ∧ ov.ownBlock ≠ some b
  rt : IR wr rv rl ∧ ∀ b, inB rv b → K b
  kk : ∀ b, K b → N + 5 ≤ b ∧ b < wr.heap.size ∧ ov.ownBlock ≠ some b ∧ nv.ownBlock ≠ some b

theorem Sh1.two {N : Nat} {W0 wr : World} {hh : Int} {o : List Nat} {rl : List Int} {ov rv : Value} (s : Sh1 N W0 wr hh o rl ov rv) : Sh2 N W0 wr hh o rl [] ov rv (.slice none 0 0) (fun b => rv.ownBlock = some b) :=
  ⟨s.bel, s.sz, s.num, s.ord, s.ordg, s.g, ⟨[], fun _ => .slice none 0 0, World.ownsRow_nil _ _ _ _, Trip.nil _, fun i hi => by simp at hi⟩, fun b e => by simp [Value.ownBlock] at e,
    ⟨IR_of_owns s.rt, fun b k => inB_own s.rt k⟩, fun b e => ⟨(s.rt.lt b e).1, (s.rt.lt b e).2, s.ap b e, by simp [Value.ownBlock]⟩⟩

theorem Sh2.told {N : Nat} {W0 wr w1 : World} {hh : Int} {o o1 : List Nat} {rl : List Int} {ns : List Nd} {ov rv nv ov1 : Value} {K : Nat → Prop} (s : Sh2 N W0 wr hh o rl ns ov rv nv K)
    (r : w1.rowIs (N + 2) 2 3200 (nmF o1)) (ho : w1.ownsRow (N + 3) 2 1 ov1 o1.length (icells (ints o1))) (hl : ov1.ownBlock = ov.ownBlock ∨ ∃ b, ov1.ownBlock = some b ∧ wr.heap.size ≤ b)
    (g : Grew wr w1 (fun k => k = N + 2 ∨ ov.ownBlock = some k)) : Sh2 N W0 w1 hh o1 rl ns ov1 rv nv K := by
  have hsz := s.sz
  have gsz := g.size
  have ob := s.ord.lt
  have nn : ∀ b, b < wr.heap.size → ov.ownBlock ≠ some b → ov1.ownBlock ≠ some b := fun b h1 h2 => by
    rcases hl with e | ⟨b', e, hb⟩
    · rw [e]; exact h2
    · rw [e]; simp; omega
  have kS : ∀ b, K b → ¬ (b = N + 2 ∨ ov.ownBlock = some b) := fun b k q => by
    obtain ⟨k1, k2, k3, k4⟩ := s.kk b k
    rcases q with q | q
    · omega
    · exact k3 q
  refine ⟨s.bel.trans (g.below (by omega) fun b _ q => ?_), by omega, r, ho, nn _ (by omega) s.ordg, g.row s.g ?_, g.nk s.nd ?_ kS, ?_, ⟨g.ir s.rt.1 (fun b q => kS b (s.rt.2 b q)), s.rt.2⟩, ?_⟩
  · rcases q with q | q
    · omega
    · have := (ob b q).1; omega
  · rintro (q | q)
    · omega
    · exact s.ordg q
  · rintro b e (q | q)
    · have := (s.ndb b e).1; omega
    · exact (s.ndb b e).2.2 q
  · intro b e
    obtain ⟨h1, h2, h3⟩ := s.ndb b e
    exact ⟨h1, by omega, nn b h2 h3⟩
  · intro b k
    obtain ⟨h1, h2, h3, h4⟩ := s.kk b k
    exact ⟨h1, by omega, nn b h2 h3, h4⟩
theorem Sh2.new {N : Nat} {W0 wr w1 : World} {hh : Int} {o : List Nat} {rl : List Int} {ns : List Nd} {ov rv nv : Value} {K : Nat → Prop} (s : Sh2 N W0 wr hh o rl ns ov rv nv K) {S : Nat → Prop} (g : Grew wr w1 S)
    (h1 : ∀ b, S b → N + 5 ≤ b ∧ ov.ownBlock ≠ some b ∧ nv.ownBlock ≠ some b ∧ ¬ K b) : Sh2 N W0 w1 hh o rl ns ov rv nv K := by
  have hsz := s.sz
  have gsz := g.size
  refine ⟨s.bel.trans (g.below (by omega) fun b _ q => by have := (h1 b q).1; omega), by omega, g.row s.num (fun q => by have := (h1 _ q).1; omega), g.own s.ord (fun b e q => (h1 b q).2.1 e), s.ordg, g.row s.g (fun q => by have := (h1 _ q).1; omega),
    g.nk s.nd (fun b e q => (h1 b q).2.2.1 e) (fun b k q => (h1 b q).2.2.2 k), fun b e => ?_, ⟨g.ir s.rt.1 (fun b q k => (h1 b k).2.2.2 (s.rt.2 b q)), s.rt.2⟩, fun b k => ?_⟩
  · obtain ⟨q1, q2, q3⟩ := s.ndb b e
    exact ⟨q1, by omega, q3⟩
  · obtain ⟨q1, q2, q3, q4⟩ := s.kk b k
    exact ⟨q1, by omega, q3, q4⟩

/-- .. and one of them has its fields coming. -/
structure Sh3 (N : Nat) (W0 wr : World) (hh : Int) (o : List Nat) (rl : List Int) (ns : List Nd) (ov rv nv : Value) (K : Nat → Prop) (bn : Nat) (c z : Int) (fl : List Int) (fv : Value) : Prop where
  s : Sh2 N W0 wr hh o rl ns ov rv nv K
  bnl : N + 5 ≤ bn
  bnk : ¬ K bn ∧ ov.ownBlock ≠ some bn ∧ nv.ownBlock ≠ some bn ∧ fv.ownBlock ≠ some bn
  nb : wr.rowIs bn 46 3 (ndF c z fv)
  fo : wr.ownsRow (N + 5) 2 1 fv fl.length (icells fl)
  fap : ∀ b, fv.ownBlock = some b → ov.ownBlock ≠ some b ∧ nv.ownBlock ≠ some b ∧ ¬ K b

theorem Sh3.told {N : Nat} {W0 wr w1 : World} {hh : Int} {o o1 : List Nat} {rl : List Int} {ns : List Nd} {ov rv nv ov1 : Value} {K : Nat → Prop} {bn : Nat} {c z : Int} {fl : List Int} {fv : Value} (s : Sh3 N W0 wr hh o rl ns ov rv nv K bn c z fl fv)
    (r : w1.rowIs (N + 2) 2 3200 (nmF o1)) (ho : w1.ownsRow (N + 3) 2 1 ov1 o1.length (icells (ints o1))) (hl : ov1.ownBlock = ov.ownBlock ∨ ∃ b, ov1.ownBlock = some b ∧ wr.heap.size ≤ b)
    (g : Grew wr w1 (fun k => k = N + 2 ∨ ov.ownBlock = some k)) : Sh3 N W0 w1 hh o1 rl ns ov1 rv nv K bn c z fl fv := by
  have hb := s.bnl
  have hlt := s.nb.lt
  have nn : ∀ b, b < wr.heap.size → ov.ownBlock ≠ some b → ov1.ownBlock ≠ some b := fun b h1 h2 => by
    rcases hl with e | ⟨b', e, hb⟩
    · rw [e]; exact h2
    · rw [e]; simp; omega
  refine ⟨s.s.told r ho hl g, hb, ⟨s.bnk.1, nn _ hlt s.bnk.2.1, s.bnk.2.2⟩, g.row s.nb ?_, g.own s.fo ?_, fun b e => ⟨nn _ (s.fo.lt b e).2 (s.fap b e).1, (s.fap b e).2⟩⟩
  · rintro (q | q)
    · omega
    · exact s.bnk.2.1 q
  · rintro b e (q | q)
    · have := (s.fo.lt b e).1; omega
    · exact (s.fap b e).1 q
/-- A field comes behind the others. -/
theorem Sh3.field {N : Nat} {W0 wr w2 w3 : World} {hh : Int} {o : List Nat} {rl : List Int} {ns : List Nd} {ov rv nv : Value} {K : Nat → Prop} {bn : Nat} {c z x : Int} {fl : List Int} {fv fv1 : Value} (s : Sh3 N W0 wr hh o rl ns ov rv nv K bn c z fl fv)
    (a : Below wr.heap.size wr w2) (ho : w3.ownsRow (N + 5) 2 1 fv1 (fl.length + 1) (icells fl ++ [.int .i64 x])) (g : w2.grownBy w3 fv.ownBlock) (hl : fv1.ownBlock = fv.ownBlock ∨ fv1.ownBlock = some w2.heap.size) :
    Sh3 N W0 (w3.setCell ⟨bn, 2, none⟩ fv1) hh o rl ns ov rv nv K bn c z (fl ++ [x]) fv1 := by
  have hb := s.bnl
  have hlt := s.nb.lt
  have az := a.size
  have G1 : Grew wr w3 (fun k => fv.ownBlock = some k) := (Grew.new a _).trans (Grew.grown g)
  have G2 := Grew.set w3 bn 2 fv1
  have f1 : ∀ b, fv1.ownBlock = some b → fv.ownBlock = some b ∨ wr.heap.size ≤ b := fun b e => by
    rcases hl with k | k
    · exact .inl (by rw [← k]; exact e)
    · rw [k] at e; simp at e; exact .inr (by omega)
  have nbn : fv1.ownBlock ≠ some bn := fun e => by
    rcases f1 bn e with k | k
    · exact s.bnk.2.2.2 k
    · omega
  refine ⟨(s.s.new G1 fun b e => ⟨(s.fo.lt b e).1, s.fap b e⟩).new G2 fun b e => ?_, hb, ⟨s.bnk.1, s.bnk.2.1, s.bnk.2.2.1, nbn⟩, nd_set2 (G1.row s.nb s.bnk.2.2.2) fv1, ?_, fun b e => ?_⟩
  · subst e
    exact ⟨hb, s.bnk.2.1, s.bnk.2.2.1, s.bnk.1⟩
  · have := G2.own ho (fun b e q => nbn (by rw [e, q]))
    simpa [icells] using this
  · rcases f1 b e with k | k
    · exact s.fap b k
    · refine ⟨fun q => ?_, fun q => ?_, fun q => ?_⟩
      · have := (s.s.ord.lt b q).2; omega
      · have := (s.s.ndb b q).2.1; omega
      · have := (s.s.kk b q).2.1; omega
/-- The node is done, and comes behind the others. -/
theorem Sh3.done {N : Nat} {W0 wr w2 w3 : World} {hh : Int} {o : List Nat} {rl : List Int} {ns : List Nd} {ov rv nv nv1 : Value} {K : Nat → Prop} {bn : Nat} {c z : Int} {fl : List Int} {fv : Value} (s : Sh3 N W0 wr hh o rl ns ov rv nv K bn c z fl fv)
    (a : Below wr.heap.size wr w2) {xs : List Value} {fw : Nat → Value} (ht : Trip xs ns fw) (hf : ∀ i, i < ns.length → IR wr (fw i) (ns.getD i nd0).fl ∧ ∀ b, inB (fw i) b → K b)
    (ho : w3.ownsRow (N + 5) 46 3 nv1 (ns.length + 1) (xs ++ [.int .i64 c, .int .i64 z, fv])) (g : w2.grownBy w3 nv.ownBlock) (hl : nv1.ownBlock = nv.ownBlock ∨ nv1.ownBlock = some w2.heap.size) :
    Sh2 N W0 (w3.setCell ⟨N + 4, 1, none⟩ nv1) hh o rl (ns ++ [⟨c, z, fl⟩]) ov rv nv1 (fun b => K b ∨ fv.ownBlock = some b) := by
  have hsz := s.s.sz
  have az := a.size
  have G1 : Grew wr w3 (fun k => nv.ownBlock = some k) := (Grew.new a _).trans (Grew.grown g)
  have G2 := Grew.set w3 (N + 4) 1 nv1
  have g1z := G1.size
  have g2z := G2.size
  have n1 : ∀ b, nv1.ownBlock = some b → nv.ownBlock = some b ∨ wr.heap.size ≤ b := fun b e => by
    rcases hl with k | k
    · exact .inl (by rw [← k]; exact e)
    · rw [k] at e; simp at e; exact .inr (by omega)
  have n5 : ∀ b, nv1.ownBlock = some b → N + 5 ≤ b := fun b e => (ho.lt b e).1
  refine ⟨(s.s.bel.trans (G1.below (by omega) fun b _ q => by have := (s.s.ndb b q).1; omega)).trans (G2.below (by omega) fun b _ q => by omega), by omega, ?_, ?_, s.s.ordg, gr_set1 (G1.row s.s.g fun q => by have := (s.s.ndb _ q).1; omega) nv1, ?_, fun b e => ⟨n5 b e, ?_, fun q => ?_⟩, ⟨?_, fun b q => .inl (s.s.rt.2 b q)⟩, ?_⟩
  · exact G2.row (G1.row s.s.num fun q => by have := (s.s.ndb _ q).1; omega) (by omega)
  · exact G2.own (G1.own s.s.ord fun b e q => (s.s.ndb b q).2.2 e) (fun b e q => s.s.ordg (by rw [e, q]))
  · refine ⟨_, _, (show (w3.setCell ⟨N + 4, 1, none⟩ nv1).ownsRow (N + 5) _ 3 nv1 (ns ++ [(⟨c, z, fl⟩ : Nd)]).length _ from ?_), ht.snoc c z fl fv, fun i hi => ?_⟩
    · have := G2.own ho (fun b e q => by have := n5 b e; omega)
      simpa using this
    · have hi' : i < ns.length + 1 := by simpa using hi
      by_cases e : i = ns.length
      · subst e
        have e2 : (ns ++ [(⟨c, z, fl⟩ : Nd)]).getD ns.length nd0 = ⟨c, z, fl⟩ := by simp
        rw [if_pos rfl, e2]
        refine ⟨G2.ir (G1.ir (IR_of_owns s.fo) fun b q k => ?_) fun b q k => ?_, fun b q => .inr (inB_own s.fo q)⟩
        · exact (s.fap b (inB_own s.fo q)).2.1 k
        · have := (s.fo.lt b (inB_own s.fo q)).1; omega
      · have hlt : i < ns.length := by omega
        have eg : (ns ++ [(⟨c, z, fl⟩ : Nd)]).getD i nd0 = ns.getD i nd0 := by simp [List.getD_eq_getElem?_getD, List.getElem?_append_left hlt]
        rw [if_neg e, eg]
        obtain ⟨f1, f2⟩ := hf i hlt
        refine ⟨G2.ir (G1.ir f1 fun b q k => (s.s.kk b (f2 b q)).2.2.2 k) fun b q k => ?_, fun b q => .inl (f2 b q)⟩
        have := (s.s.kk b (f2 b q)).1; omega
  · have := (ho.lt b e).2; omega
  · rcases n1 b e with k | k
    · exact (s.s.ndb b k).2.2 q
    · have := (s.s.ord.lt b q).2; omega
  · refine G2.ir (G1.ir s.s.rt.1 fun b q k => (s.s.kk b (s.s.rt.2 b q)).2.2.2 k) fun b q k => ?_
    have := (s.s.kk b (s.s.rt.2 b q)).1; omega
  · rintro b (k | k)
    · obtain ⟨k1, k2, k3, k4⟩ := s.s.kk b k
      exact ⟨k1, by omega, k3, fun q => by
        rcases n1 b q with e | e
        · exact k4 e
        · omega⟩
    · obtain ⟨k1, k2⟩ := s.fo.lt b k
      obtain ⟨k3, k4, k5⟩ := s.fap b k
      exact ⟨k1, by omega, k3, fun q => by
        rcases n1 b q with e | e
        · exact k4 e
        · omega⟩

end Go.Proofs.Ytfbnjdlnmnhjoaa
