
import Derived.Test.YtphkmgalgngjiaaGreatZP14
import Derived.Test.YtphkmgalgngjiaaGreatZP8
import Derived.Test.YtphkmgalgngjiaaGreatZP15
import Derived.Test.YtphkmgalgngjiaaGreatZP1
/- Rows of nodes, and graphs that were made since. -/
namespace Go.Proofs.YtphkmgalgngjiaaGreat
open Go.RowKit

/-- The cells of a row of nodes. -/
def Trip (xs : List Value) (ns : List Nd) (fv : Nat → Value) : Prop :=
  xs.length = ns.length * 3 ∧ ∀ i, i < ns.length → xs[i * 3]? = some (.int .i64 (ns.getD i nd0).cls) ∧ xs[i * 3 + 1]? = some (.int .i64 (ns.getD i nd0).hash) ∧ xs[i * 3 + 2]? = some (fv i)
theorem Trip.nil (fv : Nat → Value) : Trip [] [] fv := ⟨rfl, fun i hi => by simp at hi⟩
theorem Trip.snoc {xs : List Value} {ns : List Nd} {fv : Nat → Value} (h : Trip xs ns fv) (c z : Int) (fl : List Int) (f : Value) :
    Trip (xs ++ [.int .i64 c, .int .i64 z, f]) (ns ++ [⟨c, z, fl⟩]) (fun i => if i = ns.length then f else fv i) := by
  obtain ⟨hl, h⟩ := h
  refine ⟨by simp [hl]; omega, fun i hi => ?_⟩
  have hi' : i < ns.length + 1 := by simpa using hi
  by_cases e : i = ns.length
  · subst e
    rw [← hl, List.getElem?_append_right (by omega), List.getElem?_append_right (by omega), List.getElem?_append_right (by omega)]
    simp
  · have hlt : i < ns.length := by omega
    obtain ⟨h0, h1, h2⟩ := h i hlt
    rw [List.getElem?_append_left (by omega), List.getElem?_append_left (by omega), List.getElem?_append_left (by omega)]
    have ef : (fun i => if i = ns.length then f else fv i) i = fv i := if_neg e
    rw [ef]
    have eg : (ns ++ [(⟨c, z, fl⟩ : Nd)]).getD i nd0 = ns.getD i nd0 := by simp [List.getD_eq_getElem?_getD, List.getElem?_append_left hlt]
    rw [eg]
    exact ⟨h0, h1, h2⟩
theorem own_cell3 {w : World} {B e : Nat} {v : Value} {n : Nat} {xs : List Value} (h : w.ownsRow B e 3 v n xs) : ∃ ao cap, v = .slice ao n cap ∧ n ≤ cap ∧ ∀ j, j < n * 3 → ∃ b, ao = some ⟨b, 0, none⟩ ∧ w.cell? ⟨b, j, none⟩ = xs[j]? := by
  obtain ⟨hl, h⟩ := h
  rcases h with ⟨rfl, rfl⟩ | ⟨g, cap, cur, rfl, hB, hh, h1, h2, h3, h4⟩
  · exact ⟨none, 0, rfl, Nat.le_refl _, fun i hi => by omega⟩
  · refine ⟨_, cap, rfl, h1, fun i hi => ⟨g, rfl, ?_⟩⟩
    rw [← h4, List.getElem?_take_of_lt (by omega)]
    simp [World.cell?, hh]
/-- Nodes of which the row is owned and the fields read, in blocks of K. -/
def NK (B : Nat) (w : World) (nv : Value) (ns : List Nd) (K : Nat → Prop) : Prop :=
  ∃ xs fv, w.ownsRow B 87 3 nv ns.length xs ∧ Trip xs ns fv ∧ ∀ i, i < ns.length → IR w (fv i) (ns.getD i nd0).fl ∧ ∀ b, inB (fv i) b → K b
theorem NK.nr {B : Nat} {w : World} {nv : Value} {ns : List Nd} {K : Nat → Prop} (h : NK B w nv ns K) : NR w nv ns := by
  obtain ⟨xs, fv, ho, ht, hf⟩ := h
  obtain ⟨ao, cap, rfl, hle, hc⟩ := own_cell3 ho
  refine ⟨ao, cap, rfl, hle, fun i hi => ?_⟩
  obtain ⟨b, rfl, c0⟩ := hc (i * 3) (by omega)
  obtain ⟨_, e1, c1⟩ := hc (i * 3 + 1) (by omega)
  obtain ⟨_, e2, c2⟩ := hc (i * 3 + 2) (by omega)
  cases e1
  cases e2
  obtain ⟨t0, t1, t2⟩ := ht.2 i hi
  obtain ⟨fa, fc, hfv, _⟩ := id (hf i hi).1
  refine ⟨b, 0, fa, (ns.getD i nd0).fl.length, fc, rfl, ?_, ?_, ?_, ?_⟩
  · rw [Nat.zero_add, c0, t0]
  · rw [Nat.zero_add, c1, t1]
  · rw [Nat.zero_add, c2, t2, hfv]
  · rw [← hfv]
    exact (hf i hi).1
theorem Grew.nk {w w' : World} {S K : Nat → Prop} {B : Nat} {nv : Value} {ns : List Nd} (h : Grew w w' S) (k : NK B w nv ns K) (h1 : ∀ b, nv.ownBlock = some b → ¬ S b) (h2 : ∀ b, K b → ¬ S b) : NK B w' nv ns K := by
  obtain ⟨xs, fv, ho, ht, hf⟩ := k
  exact ⟨xs, fv, h.own ho h1, ht, fun i hi => ⟨h.ir (hf i hi).1 (fun b q => h2 b ((hf i hi).2 b q)), (hf i hi).2⟩⟩
theorem NK.mono {w : World} {K K' : Nat → Prop} {B : Nat} {nv : Value} {ns : List Nd} (k : NK B w nv ns K) (h : ∀ b, K b → K' b) : NK B w nv ns K' := by
  obtain ⟨xs, fv, ho, ht, hf⟩ := k
  exact ⟨xs, fv, ho, ht, fun i hi => ⟨(hf i hi).1, fun b q => h b ((hf i hi).2 b q)⟩⟩
theorem NK.base {w : World} {K : Nat → Prop} {B B' : Nat} {nv : Value} {ns : List Nd} (k : NK B w nv ns K) (h : B' ≤ B) : NK B' w nv ns K := by
  obtain ⟨xs, fv, ho, ht, hf⟩ := k
  exact ⟨xs, fv, gown_mono ho h, ht, hf⟩
theorem NK.own {w : World} {K : Nat → Prop} {B : Nat} {nv : Value} {ns : List Nd} (k : NK B w nv ns K) : ∀ b, nv.ownBlock = some b → B ≤ b ∧ b < w.heap.size := by
  obtain ⟨xs, fv, ho, ht, hf⟩ := k
  exact ho.lt
/-- A graph that was made since B. -/
def GRn (B : Nat) (w : World) (v : Value) (g : Gr) : Prop := ∃ vr vn K, v = .agg #[vr, vn, .int .i64 g.hash] ∧ (IR w vr g.roots ∧ ∀ b, inB vr b → K b) ∧ NK B w vn g.nodes K ∧ ∀ b, K b → B ≤ b
theorem GRn.gr {B : Nat} {w : World} {v : Value} {g : Gr} (h : GRn B w v g) : GR w v g := by
  obtain ⟨vr, vn, K, e, hr, hn, _⟩ := h
  exact ⟨vr, vn, e, hr.1, hn.nr⟩
theorem Grew.grn {B : Nat} {w w' : World} {v : Value} {g : Gr} {S : Nat → Prop} (q : Grew w w' S) (h : GRn B w v g) (hS : ∀ b, S b → b < B) : GRn B w' v g := by
  obtain ⟨vr, vn, K, e, hr, hn, hK⟩ := h
  exact ⟨vr, vn, K, e, ⟨q.ir hr.1 (fun b k s => by have := hK b (hr.2 b k); have := hS b s; omega), hr.2⟩, q.nk hn (fun b k s => by have := (hn.own b k).1; have := hS b s; omega) (fun b k s => by have := hK b k; have := hS b s; omega), hK⟩
theorem GRn.later {B : Nat} {w w' : World} {v : Value} {g : Gr} (h : GRn B w v g) (hb : Below w.heap.size w w') : GRn B w' v g := (Grew.new hb (fun _ => False)).grn h (fun _ q => q.elim)
theorem GRn.base {B B' : Nat} {w : World} {v : Value} {g : Gr} (h : GRn B w v g) (hB : B' ≤ B) : GRn B' w v g := by
  obtain ⟨vr, vn, K, e, hr, hn, hK⟩ := h
  exact ⟨vr, vn, K, e, hr, hn.base hB, fun b k => by have := hK b k; omega⟩

end Go.Proofs.YtphkmgalgngjiaaGreat

/- Graphs as they are read, and the parts of one that is being made. -/
namespace Go.Proofs.YtphkmgalgngjiaaGreat
open Go.RowKit

theorem gr_set0 {w : World} {b t : Nat} {rv nv : Value} {hh : Int} (h : w.rowIs b t 3 (grF rv nv hh)) (u : Value) : (w.setCell ⟨b, 0, none⟩ u).rowIs b t 3 (grF u nv hh) :=
  (h.set 0 u).congr fun i _ => by unfold grF; by_cases e : i = 0 <;> simp [e]
theorem gr_set1 {w : World} {b t : Nat} {rv nv : Value} {hh : Int} (h : w.rowIs b t 3 (grF rv nv hh)) (u : Value) : (w.setCell ⟨b, 1, none⟩ u).rowIs b t 3 (grF rv u hh) :=
  (h.set 1 u).congr fun i _ => by
    unfold grF
    by_cases e : i = 1
    · simp [e]
    · by_cases e0 : i = 0
      · simp [e0]
      · simp [e, e0]
def ndF (c z : Int) (f : Value) (i : Nat) : Value := if i = 0 then .int .i64 c else if i = 1 then .int .i64 z else f
theorem nd_set2 {w : World} {b t : Nat} {c z : Int} {f : Value} (h : w.rowIs b t 3 (ndF c z f)) (u : Value) : (w.setCell ⟨b, 2, none⟩ u).rowIs b t 3 (ndF c z u) :=
  (h.set 2 u).congr fun i hi => by
    unfold ndF
    by_cases e : i = 2
    · simp [e]
    · rw [if_neg e]
      by_cases e0 : i = 0
      · simp [e0]
      · by_cases e1 : i = 1
        · simp [e1]
        · omega

/-- A graph in the making: its roots come. -/
structure Sh1 (N : Nat) (W0 wr : World) (hh : Int) (o : List Nat) (rl : List Int) (ov rv : Value) : Prop where
  bel : Below (N + 2) W0 wr
  sz : N + 5 ≤ wr.heap.size
  num : wr.rowIs (N + 2) 2 3200 (nmF o)
  ord : wr.ownsRow (N + 3) 2 1 ov o.length (icells (ints o))
  ordg : ov.ownBlock ≠ some (N + 4)
  g : wr.rowIs (N + 4) 38 3 (grF rv (.slice none 0 0) hh)
  rt : wr.ownsRow (N + 5) 2 1 rv rl.length (icells rl)
  ap : ∀ b, rv.ownBlock = some b → ov.ownBlock ≠ some b

/-- A root comes behind the others. -/
theorem Sh1.root {N : Nat} {W0 wr w2 w3 : World} {hh : Int} {o : List Nat} {rl : List Int} {ov rv rv1 : Value} {x : Int} (s : Sh1 N W0 wr hh o rl ov rv) (a : Below wr.heap.size wr w2)
    (ho : w3.ownsRow (N + 5) 2 1 rv1 (rl.length + 1) (icells rl ++ [.int .i64 x])) (g : w2.grownBy w3 rv.ownBlock) (hl : rv1.ownBlock = rv.ownBlock ∨ rv1.ownBlock = some w2.heap.size) :
    Sh1 N W0 (w3.setCell ⟨N + 4, 0, none⟩ rv1) hh o (rl ++ [x]) ov rv1 := by
  have hsz := s.sz
  have ob := s.ord.lt
  have rb := s.rt.lt
  have az := a.size
  have G1 : Grew wr w3 (fun k => rv.ownBlock = some k) := (Grew.new a _).trans (Grew.grown g)
  have gg := G1.row s.g (fun q => by have := (rb _ q).1; omega)
  have G2 := Grew.set w3 (N + 4) 0 rv1
  have ne4 : ∀ b, rv1.ownBlock = some b → b ≠ N + 4 := fun b e => by have := (ho.lt b e).1; omega
  refine ⟨(s.bel.trans (G1.below (by omega) fun b _ q => by have := (rb b q).1; omega)).trans (G2.below (by have := G1.size; omega) fun b _ q => by omega), ?_, ?_, ?_, s.ordg, gr_set0 gg rv1, ?_, ?_⟩
  · have := G1.size; have := G2.size; omega
  · exact G2.row (G1.row s.num (fun q => by have := (rb _ q).1; omega)) (by omega)
  · exact G2.own (G1.own s.ord (fun b e q => s.ap b q e)) (fun b e q => s.ordg (by rw [e, q]))
  · have := G2.own ho ne4
    simpa [icells] using this
  · intro b e q
    have := (ob b q).2
    rcases hl with k | k
    · exact s.ap b (by rw [← k]; exact e) q
    · rw [k] at e; simp at e; omega

/-- A graph in the making: its nodes come. K: the blocks of what is done. -/
structure Sh2 (N : Nat) (W0 wr : World) (hh : Int) (o : List Nat) (rl : List Int) (ns : List Nd) (ov rv nv : Value) (K : Nat → Prop) : Prop where
  bel : Below (N + 2) W0 wr
  sz : N + 5 ≤ wr.heap.size
  num : wr.rowIs (N + 2) 2 3200 (nmF o)
  ord : wr.ownsRow (N + 3) 2 1 ov o.length (icells (ints o))
  ordg : ov.ownBlock ≠ some (N + 4)
  g : wr.rowIs (N + 4) 38 3 (grF rv nv hh)
  nd : NK (N + 5) wr nv ns K
  ndb : ∀ b, nv.ownBlock = some b → N + 5 ≤ b ∧ b < wr.heap.size ∧ ov.ownBlock ≠ some b
  rt : IR wr rv rl ∧ ∀ b, inB rv b → K b
  kk : ∀ b, K b → N + 5 ≤ b ∧ b < wr.heap.size ∧ ov.ownBlock ≠ some b ∧ nv.ownBlock ≠ some b

theorem Sh1.two {N : Nat} {W0 wr : World} {hh : Int} {o : List Nat} {rl : List Int} {ov rv : Value} (s : Sh1 N W0 wr hh o rl ov rv) : Sh2 N W0 wr hh o rl [] ov rv (.slice none 0 0) (fun b => rv.ownBlock = some b) :=
  ⟨s.bel, s.sz, s.num, s.ord, s.ordg, s.g, ⟨[], fun _ => .slice none 0 0, World.ownsRow_nil _ _ _ _, Trip.nil _, fun i hi => by simp at hi⟩, fun b e => by simp [Value.ownBlock] at e,
    ⟨IR_of_owns s.rt, fun b k => inB_own s.rt k⟩, fun b e => ⟨(s.rt.lt b e).1, (s.rt.lt b e).2, s.ap b e, by simp [Value.ownBlock]⟩⟩

theorem Sh2.new {N : Nat} {W0 wr w1 : World} {hh : Int} {o : List Nat} {rl : List Int} {ns : List Nd} {ov rv nv : Value} {K : Nat → Prop} (s : Sh2 N W0 wr hh o rl ns ov rv nv K) {S : Nat → Prop} (g : Grew wr w1 S)
    (h1 : ∀ b, S b → N + 5 ≤ b ∧ ov.ownBlock ≠ some b ∧ nv.ownBlock ≠ some b ∧ ¬ K b) : Sh2 N W0 w1 hh o rl ns ov rv nv K := by
  have hsz := s.sz
  have gsz := g.size
  refine ⟨s.bel.trans (g.below (by omega) fun b _ q => by have := (h1 b q).1; omega), by omega, g.row s.num (fun q => by have := (h1 _ q).1; omega), g.own s.ord (fun b e q => (h1 b q).2.1 e), s.ordg, g.row s.g (fun q => by have := (h1 _ q).1; omega),
    g.nk s.nd (fun b e q => (h1 b q).2.2.1 e) (fun b k q => (h1 b q).2.2.2 k), fun b e => ?_, ⟨g.ir s.rt.1 (fun b q k => (h1 b k).2.2.2 (s.rt.2 b q)), s.rt.2⟩, fun b k => ?_⟩
  · obtain ⟨q1, q2, q3⟩ := s.ndb b e
    exact ⟨q1, by omega, q3⟩
  · obtain ⟨q1, q2, q3, q4⟩ := s.kk b k
    exact ⟨q1, by omega, q3, q4⟩

/-- .. and one of them has its fields coming. -/
structure Sh3 (N : Nat) (W0 wr : World) (hh : Int) (o : List Nat) (rl : List Int) (ns : List Nd) (ov rv nv : Value) (K : Nat → Prop) (bn : Nat) (c z : Int) (fl : List Int) (fv : Value) : Prop where
  s : Sh2 N W0 wr hh o rl ns ov rv nv K
  bnl : N + 5 ≤ bn
  bnk : ¬ K bn ∧ ov.ownBlock ≠ some bn ∧ nv.ownBlock ≠ some bn ∧ fv.ownBlock ≠ some bn
  nb : wr.rowIs bn 87 3 (ndF c z fv)
  fo : wr.ownsRow (N + 5) 2 1 fv fl.length (icells fl)
  fap : ∀ b, fv.ownBlock = some b → ov.ownBlock ≠ some b ∧ nv.ownBlock ≠ some b ∧ ¬ K b

/-- A field comes behind the others. -/
theorem Sh3.field {N : Nat} {W0 wr w2 w3 : World} {hh : Int} {o : List Nat} {rl : List Int} {ns : List Nd} {ov rv nv : Value} {K : Nat → Prop} {bn : Nat} {c z x : Int} {fl : List Int} {fv fv1 : Value} (s : Sh3 N W0 wr hh o rl ns ov rv nv K bn c z fl fv)
    (a : Below wr.heap.size wr w2) (ho : w3.ownsRow (N + 5) 2 1 fv1 (fl.length + 1) (icells fl ++ [.int .i64 x])) (g : w2.grownBy w3 fv.ownBlock) (hl : fv1.ownBlock = fv.ownBlock ∨ fv1.ownBlock = some w2.heap.size) :
    Sh3 N W0 (w3.setCell ⟨bn, 2, none⟩ fv1) hh o rl ns ov rv nv K bn c z (fl ++ [x]) fv1 := by
  have hb := s.bnl
  have hlt := s.nb.lt
  have az := a.size
  have G1 : Grew wr w3 (fun k => fv.ownBlock = some k) := (Grew.new a _).trans (Grew.grown g)
  have G2 := Grew.set w3 bn 2 fv1
  have f1 : ∀ b, fv1.ownBlock = some b → fv.ownBlock = some b ∨ wr.heap.size ≤ b := fun b e => by
    rcases hl with k | k
    · exact .inl (by rw [← k]; exact e)
    · rw [k] at e; simp at e; exact .inr (by omega)
  have nbn : fv1.ownBlock ≠ some bn := fun e => by
    rcases f1 bn e with k | k
    · exact s.bnk.2.2.2 k
    · omega
  refine ⟨(s.s.new G1 fun b e => ⟨(s.fo.lt b e).1, s.fap b e⟩).new G2 fun b e => ?_, hb, ⟨s.bnk.1, s.bnk.2.1, s.bnk.2.2.1, nbn⟩, nd_set2 (G1.row s.nb s.bnk.2.2.2) fv1, ?_, fun b e => ?_⟩
  · subst e
    exact ⟨hb, s.bnk.2.1, s.bnk.2.2.1, s.bnk.1⟩
  · have := G2.own ho (fun b e q => nbn (by rw [e, q]))
    simpa [icells] using this
  · rcases f1 b e with k | k
    · exact s.fap b k
    · refine ⟨fun q => ?_, fun q => ?_, fun q => ?_⟩
      · have := (s.s.ord.lt b q).2; omega
      · have := (s.s.ndb b q).2.1; omega
      · have := (s.s.kk b q).2.1; omega
/-- The node is done, and comes behind the others. -/
theorem Sh3.done {N : Nat} {W0 wr w2 w3 : World} {hh : Int} {o : List Nat} {rl : List Int} {ns : List Nd} {ov rv nv nv1 : Value} {K : Nat → Prop} {bn : Nat} {c z : Int} {fl : List Int} {fv : Value} (s : Sh3 N W0 wr hh o rl ns ov rv nv K bn c z fl fv)
    (a : Below wr.heap.size wr w2) {xs : List Value} {fw : Nat → Value} (ht : Trip xs ns fw) (hf : ∀ i, i < ns.length → IR wr (fw i) (ns.getD i nd0).fl ∧ ∀ b, inB (fw i) b → K b)
    (ho : w3.ownsRow (N + 5) 87 3 nv1 (ns.length + 1) (xs ++ [.int .i64 c, .int .i64 z, fv])) (g : w2.grownBy w3 nv.ownBlock) (hl : nv1.ownBlock = nv.ownBlock ∨ nv1.ownBlock = some w2.heap.size) :
    Sh2 N W0 (w3.setCell ⟨N + 4, 1, none⟩ nv1) hh o rl (ns ++ [⟨c, z, fl⟩]) ov rv nv1 (fun b => K b ∨ fv.ownBlock = some b) := by
  have hsz := s.s.sz
  have az := a.size
  have G1 : Grew wr w3 (fun k => nv.ownBlock = some k) := (Grew.new a _).trans (Grew.grown g)
  have G2 := Grew.set w3 (N + 4) 1 nv1
  have g1z := G1.size
  have g2z := G2.size
  have n1 : ∀ b, nv1.ownBlock = some b → nv.ownBlock = some b ∨ wr.heap.size ≤ b := fun b e => by
    rcases hl with k | k
    · exact .inl (by rw [← k]; exact e)
    · rw [k] at e; simp at e; exact .inr (by omega)
  have n5 : ∀ b, nv1.ownBlock = some b → N + 5 ≤ b := fun b e => (ho.lt b e).1
  refine ⟨(s.s.bel.trans (G1.below (by omega) fun b _ q => by have := (s.s.ndb b q).1; omega)).trans (G2.below (by omega) fun b _ q => by omega), by omega, ?_, ?_, s.s.ordg, gr_set1 (G1.row s.s.g fun q => by have := (s.s.ndb _ q).1; omega) nv1, ?_, fun b e => ⟨n5 b e, ?_, fun q => ?_⟩, ⟨?_, fun b q => .inl (s.s.rt.2 b q)⟩, ?_⟩
  · exact G2.row (G1.row s.s.num fun q => by have := (s.s.ndb _ q).1; omega) (by omega)
  · exact G2.own (G1.own s.s.ord fun b e q => (s.s.ndb b q).2.2 e) (fun b e q => s.s.ordg (by rw [e, q]))
  · refine ⟨_, _, (show (w3.setCell ⟨N + 4, 1, none⟩ nv1).ownsRow (N + 5) _ 3 nv1 (ns ++ [(⟨c, z, fl⟩ : Nd)]).length _ from ?_), ht.snoc c z fl fv, fun i hi => ?_⟩
    · have := G2.own ho (fun b e q => by have := n5 b e; omega)
      simpa using this
    · have hi' : i < ns.length + 1 := by simpa using hi
      by_cases e : i = ns.length
      · subst e
        have e2 : (ns ++ [(⟨c, z, fl⟩ : Nd)]).getD ns.length nd0 = ⟨c, z, fl⟩ := by simp
        rw [if_pos rfl, e2]
        refine ⟨G2.ir (G1.ir (IR_of_owns s.fo) fun b q k => ?_) fun b q k => ?_, fun b q => .inr (inB_own s.fo q)⟩
        · exact (s.fap b (inB_own s.fo q)).2.1 k
        · have := (s.fo.lt b (inB_own s.fo q)).1; omega
      · have hlt : i < ns.length := by omega
        have eg : (ns ++ [(⟨c, z, fl⟩ : Nd)]).getD i nd0 = ns.getD i nd0 := by simp [List.getD_eq_getElem?_getD, List.getElem?_append_left hlt]
        rw [if_neg e, eg]
        obtain ⟨f1, f2⟩ := hf i hlt
        refine ⟨G2.ir (G1.ir f1 fun b q k => (s.s.kk b (f2 b q)).2.2.2 k) fun b q k => ?_, fun b q => .inl (f2 b q)⟩
        have := (s.s.kk b (f2 b q)).1; omega
  · have := (ho.lt b e).2; omega
  · rcases n1 b e with k | k
    · exact (s.s.ndb b k).2.2 q
    · have := (s.s.ord.lt b q).2; omega
  · refine G2.ir (G1.ir s.s.rt.1 fun b q k => (s.s.kk b (s.s.rt.2 b q)).2.2.2 k) fun b q k => ?_
    have := (s.s.kk b (s.s.rt.2 b q)).1; omega
  · rintro b (k | k)
    · obtain ⟨k1, k2, k3, k4⟩ := s.s.kk b k
      exact ⟨k1, by omega, k3, fun q => by
        rcases n1 b q with e | e
        · exact k4 e
        · omega⟩
    · obtain ⟨k1, k2⟩ := s.fo.lt b k
      obtain ⟨k3, k4, k5⟩ := s.fap b k
      exact ⟨k1, by omega, k3, fun q => by
        rcases n1 b q with e | e
        · exact k4 e
        · omega⟩

end Go.Proofs.YtphkmgalgngjiaaGreat

/- l6Shape of the model: the graph of a right heap. -/
namespace Go.Proofs.YtphkmgalgngjiaaGreat
open Go.RowKit

theorem gr_store {w : World} {b t : Nat} {rv nv u0 u1 : Value} {hh h2 : Int} (h : w.rowIs b t 3 (grF rv nv hh)) :
    (((w.setCell ⟨b, 0, none⟩ u0).setCell ⟨b, 1, none⟩ u1).setCell ⟨b, 2, none⟩ (.int .i64 h2)).rowIs b t 3 (grF u0 u1 h2) ∧ Grew w (((w.setCell ⟨b, 0, none⟩ u0).setCell ⟨b, 1, none⟩ u1).setCell ⟨b, 2, none⟩ (.int .i64 h2)) (fun k => k = b) := by
  refine ⟨((gr_set1 (gr_set0 h u0) u1).set 2 _).congr fun i hi => ?_, ((Grew.set _ _ _ _).trans (Grew.set _ _ _ _)).trans (Grew.set _ _ _ _)⟩
  unfold grF
  by_cases e : i = 2
  · simp [e]
  · rw [if_neg e]
    by_cases e0 : i = 0
    · simp [e0]
    · by_cases e1 : i = 1
      · simp [e1]
      · omega
theorem Sh2.node {N : Nat} {W0 wr : World} {hh : Int} {o : List Nat} {rl : List Int} {ns : List Nd} {ov rv nv : Value} {K : Nat → Prop} (s : Sh2 N W0 wr hh o rl ns ov rv nv K) (c z : Int) :
    Sh3 N W0 (wr.alloc (.cells #[.int .i64 c, .int .i64 z, .slice none 0 0] 87)).drew hh o rl ns ov rv nv K wr.heap.size c z [] (.slice none 0 0) := by
  refine ⟨s.new (S := fun _ => False) (Grew.new (bel_one _ _) _).drew (fun b q => q.elim), s.sz, ⟨fun q => ?_, fun q => ?_, fun q => ?_, by simp [Value.ownBlock]⟩, ?_, World.ownsRow_nil _ _ _ _, fun b e => by simp [Value.ownBlock] at e⟩
  · have := (s.kk _ q).2.1; omega
  · have := (s.ord.lt _ q).2; omega
  · have := (s.ndb _ q).2.1; omega
  · exact World.rowIs_alloc wr #[.int .i64 c, .int .i64 z, .slice none 0 0] _ _ (fun i hi => by
      match i, hi with
      | 0, _ => rfl
      | 1, _ => rfl
      | 2, _ => rfl)


end Go.Proofs.YtphkmgalgngjiaaGreat

/- follow, tourOf and renamed of the program: the objects in the order in which they are come to, their numbers in a map. -/
namespace Go.Proofs.YtphkmgalgngjiaaGreat
open Go.RowKit Go.Maps

/-- The number of an object among those that were found. -/
def numF (o : List Nat) (k : Int) : Option Int := if 0 ≤ k ∧ k.toNat ∈ o then some ((o.idxOf k.toNat : Nat) : Int) else none
theorem numF_new {o : List Nat} {a : Nat} (h : a ∉ o) : putF (numF o) (a : Int) (o.length : Int) = numF (o ++ [a]) := by
  funext j
  unfold putF numF
  by_cases e : j = (a : Int)
  · subst e
    rw [if_pos rfl, if_pos ⟨by omega, by simp⟩, Int.toNat_natCast, List.idxOf_append, if_neg h]
    simp
  · rw [if_neg e]
    by_cases hj : 0 ≤ j
    · by_cases m : j.toNat ∈ o
      · rw [if_pos ⟨hj, m⟩, if_pos ⟨hj, by simp [m]⟩, List.idxOf_append, if_pos m]
      · rw [if_neg (fun q => m q.2), if_neg (fun q => m (by
          have := q.2
          rw [List.mem_append, List.mem_singleton] at this
          rcases this with k | k
          · exact k
          · exact absurd (show j = (a : Int) by omega) e))]
    · rw [if_neg (fun q => hj q.1), if_neg (fun q => hj q.1)]
theorem numF_nil : numF [] = fun _ => none := by
  funext j
  unfold numF
  rw [if_neg (by simp)]
theorem numF_at {o : List Nat} {a : Nat} : numF o (a : Int) = if a ∈ o then some ((o.idxOf a : Nat) : Int) else none := by
  unfold numF
  by_cases m : a ∈ o
  · rw [if_pos ⟨by omega, by simpa using m⟩, if_pos m, Int.toNat_natCast]
  · rw [if_neg (fun q => m (by simpa using q.2)), if_neg m]

/-- A tour: block T holds the objects that were found and the map of their numbers. -/
structure Tour (B : Nat) (w : World) (T M : Nat) (n : Nat) (o : List Nat) (ov : Value) : Prop where
  bx : w.rowIs T 82 2 (fun i => if i = 0 then ov else .map (some M))
  ob : w.ownsRow B 2 1 ov o.length (icells (ints o))
  mp : MP w M n (numF o)
  tl : B ≤ T ∧ B ≤ M ∧ M ≠ T
  ap : ov.ownBlock ≠ some T ∧ ov.ownBlock ≠ some M
theorem Tour.grew {B : Nat} {w w' : World} {T M n : Nat} {o : List Nat} {ov : Value} {S : Nat → Prop} (h : Tour B w T M n o ov) (g : Grew w w' S) (hs : ∀ b, S b → b ≠ T ∧ b ≠ M ∧ ov.ownBlock ≠ some b) : Tour B w' T M n o ov :=
  ⟨g.row h.bx (fun q => (hs _ q).1 rfl), g.own h.ob (fun b e q => (hs b q).2.2 e), g.mp h.mp (fun q => (hs _ q).2.1 rfl), h.tl, h.ap⟩
theorem Tour.later {B : Nat} {w w' : World} {T M n : Nat} {o : List Nat} {ov : Value} (h : Tour B w T M n o ov) (g : Below w.heap.size w w') : Tour B w' T M n o ov := h.grew (S := fun _ => False) (Grew.new g _) (fun _ q => q.elim)
theorem Tour.put {B : Nat} {w w1 w2 w3 : World} {T M n a : Nat} {o : List Nat} {ov ov1 : Value} (h : Tour B w T M n o ov) (g1 : w.grownBy w1 (some M)) (m1 : MP w1 M (n + 1) (putF (numF o) (a : Int) (o.length : Int))) (ha : a ∉ o)
    (al : Below w1.heap.size w1 w2) (ho : w3.ownsRow B 2 1 ov1 (o.length + 1) (icells (ints o) ++ [.int .i64 (a : Int)])) (g3 : w2.grownBy w3 ov.ownBlock) (hl : ov1.ownBlock = ov.ownBlock ∨ ov1.ownBlock = some w2.heap.size) :
    Tour B (w3.setCell ⟨T, 0, none⟩ ov1) T M (n + 1) (o ++ [a]) ov1 ∧ Grew w (w3.setCell ⟨T, 0, none⟩ ov1) (fun k => k = T ∨ k = M ∨ ov.ownBlock = some k) ∧ (∀ b, ov1.ownBlock = some b → ov.ownBlock = some b ∨ w.heap.size ≤ b) := by
  have G1 : Grew w w1 (fun k => k = T ∨ k = M ∨ ov.ownBlock = some k) := (Grew.grown g1).mono fun b _ e => .inr (.inl (by cases e; rfl))
  have G2 : Grew w1 w3 (fun k => ov.ownBlock = some k) := (Grew.new al _).trans (Grew.grown g3)
  have G4 := Grew.set w3 T 0 ov1
  have tlt := h.bx.lt
  have mlt := h.mp.lt
  have sz1 := g1.size
  have sz2 := al.size
  have hl2 : ∀ b, ov1.ownBlock = some b → ov.ownBlock = some b ∨ w.heap.size ≤ b := fun b e => by
    rcases hl with k | k
    · exact .inl (by rw [← k]; exact e)
    · rw [k] at e; simp at e; exact .inr (by omega)
  have nT : ov1.ownBlock ≠ some T := fun e => by
    rcases hl2 T e with k | k
    · exact h.ap.1 k
    · omega
  have nM : ov1.ownBlock ≠ some M := fun e => by
    rcases hl2 M e with k | k
    · exact h.ap.2 k
    · omega
  have hne := h.tl.2.2
  have b1 := (Grew.grown g1).row h.bx (fun e => hne (by simpa using e))
  have b3 := G2.row b1 h.ap.1
  refine ⟨⟨?_, ?_, ?_, h.tl, nT, nM⟩, (G1.trans (G2.mono fun b _ e => .inr (.inr e))).trans (G4.mono fun b _ e => .inl e), hl2⟩
  · refine (b3.set 0 ov1).congr fun i _ => ?_
    by_cases e : i = 0 <;> simp [e]
  · have := G4.own ho (fun b e q => nT (by rw [e, q]))
    simpa [icells, ints] using this
  · have := G4.mp (G2.mp m1 h.ap.2) hne
    rwa [numF_new ha] at this

theorem refOf_fit {x : Int} (h : isK 2 x = true) : ∃ a : Nat, a < 3200 ∧ (x / 2).toNat = a ∧ valK 2 x = (a : Int) := by
  obtain ⟨a, ha, e, _, _⟩ : ∃ a : Nat, a < 3200 ∧ (x / 2).toNat = a ∧ True ∧ True := by
    unfold isK kindW at h
    have h' := of_decide_eq_true h
    split at h'
    · split at h'
      · rename_i h2
        unfold adrB at h2
        have h3 := of_decide_eq_true h2
        exact ⟨(x / 2).toNat, by omega, rfl, trivial, trivial⟩
      · omega
    · split at h' <;> omega
  refine ⟨a, ha, e, ?_⟩
  rw [valK_yes h]
  unfold isK kindW at h
  have h' := of_decide_eq_true h
  split at h'
  · split at h'
    · rename_i h2
      unfold adrB at h2
      have h3 := of_decide_eq_true h2
      omega
    · omega
  · split at h' <;> omega

/-- What follow leaves. -/
def FolOut (B T M n : Nat) (o : List Nat) (ov : Value) (ws : List Int) (w : World) (e : Ending) (w' : World) : Prop :=
  e = .returned (.tuple #[]) ∧ ∃ ov' n', Tour B w' T M n' (fol o ws) ov' ∧ n' ≤ n + ws.length ∧ (∀ b, ov'.ownBlock = some b → ov.ownBlock = some b ∨ w.heap.size ≤ b) ∧ Grew w w' (fun k => k = T ∨ k = M ∨ ov.ownBlock = some k)

set_option maxRecDepth 100000 in
set_option maxHeartbeats 1600000 in
theorem follow_any (B T M n : Nat) (o : List Nat) (ov v : Value) (ws : List Int) (w : World) (ht : Tour B w T M n o ov) (hv : IR w v ws) (hva : ∀ b, inB v b → b ≠ T ∧ b ≠ M ∧ ov.ownBlock ≠ some b) (hB : B ≤ w.heap.size) (hl : ws.length ≤ 100000) (ho : ∀ j, (fol o (ws.take j)).length ≤ 100000) (hn : n ≤ 100000000) :
    Calls Tryz.prog 77 #[.pointer (some ⟨T, 0, none⟩), v] w fun e w' => FolOut B T M n o ov ws w e w' := by
  obtain ⟨va, vc, rfl, _, hvc⟩ := id hv
  go_enter Tryz.func77, Tryz.ntmps77
  go_wp2
  go_loopw [12] (fun iv wr => ∃ (j n' : Nat) (ov' : Value), j ≤ ws.length ∧ iv = .int .i64 j ∧ Tour B wr T M n' (fol o (ws.take j)) ov' ∧ n' ≤ n + j ∧ (∀ b, ov'.ownBlock = some b → ov.ownBlock = some b ∨ w.heap.size ≤ b) ∧ Grew w wr (fun k => k = T ∨ k = M ∨ ov.ownBlock = some k)) (fun iv _ => ws.length - (intOf iv).toNat)
  case atStart => exact ⟨0, n, ov, Nat.zero_le _, rfl, ht, Nat.le_refl _, fun b e => .inl e, Grew.refl _ _⟩
  case round =>
    obtain ⟨j, n', ov', hj, rfl, ht', hn', hl', hg⟩ := hrel
    by_cases hjl : j < ws.length
    · obtain ⟨vb, vo, rfl, hcw⟩ := hvc j hjl
      have hcr := hg.cell hcw (fun q => by
        obtain ⟨q1, q2, q3⟩ := hva vb ⟨vo, _, _, rfl, by omega⟩
        rcases q with q | q | q
        · exact q1 q
        · exact q2 q
        · exact q3 q)
      have SN := fol_snoc o ws j hjl
      have hob := ho j
      generalize ws.getD j 0 = x at *
      have hji : (j : Int) < ws.length := by omega
      have HG : Hid (Grew w wr (fun k => k = T ∨ k = M ∨ ov.ownBlock = some k)) := hg
      clear hg hcw hva hvc ho
      cases hx : isK 2 x
      · have F1 : Hid (fol o (ws.take (j + 1)) = fol o (ws.take j)) := (by rw [SN]; unfold fol1; rw [hx]; rfl : fol o (ws.take (j + 1)) = fol o (ws.take j))
        clear SN
        go_wp2_with (go_at_call 11; refine (implRefOf_any _ _).mono ?_; rintro e w' ⟨rfl, hw'⟩; obtain rfl := hw'.symm; rw [hx])
        exact ⟨⟨j + 1, n', ov', by omega, by go_num, by rw [F1.out]; exact ht', by omega, hl', HG.out⟩, by simp [intOf]; omega⟩
      · obtain ⟨a, ha, hat, hval⟩ := refOf_fit hx
        have b0 : wr.cell? ⟨T, 0, none⟩ = some ov' := ht'.bx.cell (i := 0) (by omega)
        have b1 : wr.cell? ⟨T, 1, none⟩ = some (.map (some M)) := ht'.bx.cell (i := 1) (by omega)
        have a64 : In64 (a : Int) := ⟨by omega, by omega⟩
        obtain ⟨oa, oc, hov⟩ := own_shape ht'.ob
        subst hov
        have NA := numF_at (o := fol o (ws.take j)) (a := a)
        by_cases hm : a ∈ fol o (ws.take j)
        · have F1 : Hid (fol o (ws.take (j + 1)) = fol o (ws.take j)) := (by rw [SN]; unfold fol1; rw [if_pos hx, hat, if_pos hm] : fol o (ws.take (j + 1)) = fol o (ws.take j))
          rw [if_pos hm] at NA
          have N1 : Hid (numF (fol o (ws.take j)) (a : Int) = some (((fol o (ws.take j)).idxOf a : Nat) : Int)) := NA
          clear SN NA
          go_wp2_with (first
            | (go_at_call 11; refine (implRefOf_any _ _).mono ?_; rintro e w' ⟨rfl, hw'⟩; obtain rfl := hw'.symm; rw [hx, hval])
            | (at_lookup; refine look_ok _ rfl _ _ rfl M n' _ rfl ht'.mp _ rfl a64 ?_; rw [N1.out]))
          exact ⟨⟨j + 1, n', _, by omega, by go_num, by rw [F1.out]; exact ht', by omega, hl', HG.out⟩, by simp [intOf]; omega⟩
        · have F1 : Hid (fol o (ws.take (j + 1)) = fol o (ws.take j) ++ [a]) := (by rw [SN]; unfold fol1; rw [if_pos hx, hat, if_neg hm] : fol o (ws.take (j + 1)) = fol o (ws.take j) ++ [a])
          rw [if_neg hm] at NA
          have N1 : Hid (numF (fol o (ws.take j)) (a : Int) = none) := NA
          clear SN NA
          have mpd : MP wr.drew M n' (numF (fol o (ws.take j))) := (Grew.refl wr (fun _ => False)).drew.mp ht'.mp (fun q => q)
          obtain ⟨w1, hrun, m1, gr1⟩ := mpd.update (by omega) (a : Int) ((fol o (ws.take j)).length : Int) a64 ⟨by omega, by omega⟩
          go_wp2_with (first
            | (go_at_call 11; refine (implRefOf_any _ _).mono ?_; rintro e w' ⟨rfl, hw'⟩; obtain rfl := hw'.symm; rw [hx, hval])
            | (at_lookup; refine look_ok _ rfl _ _ rfl M n' _ rfl ht'.mp _ rfl a64 ?_; rw [N1.out]))
          go_region
          have gr2 : wr.grownBy w1 (some M) := ⟨gr1.os, gr1.tape, gr1.output, gr1.size, gr1.block⟩
          have R1 := (Grew.grown gr2).row ht'.bx (fun e => ht'.tl.2.2 (by simpa using e))
          have O1 := (Grew.grown gr2).own ht'.ob (fun b e q => ht'.ap.2 (by rw [e]; exact q.symm))
          have t0 : w1.cell? ⟨T, 0, none⟩ = some (.slice oa (fol o (ws.take j)).length oc) := R1.cell (i := 0) (by omega)
          have al := bel_one w1 (.cells #[.int .i64 (a : Int)] 2)
          have t0' := cell_later al t0
          have O2 := own_later O1 al
          have sB : B ≤ w1.heap.size := Nat.le_trans hB (Nat.le_trans HG.out.size gr2.size)
          have hc : ∀ W : World, (W.alloc (.cells #[.int .i64 (a : Int)] 2)).cell? ⟨W.heap.size, 0, none⟩ = some (.int .i64 (a : Int)) := fun W => by simp
          have PT : Hid (∀ w3 fo fc, w3.ownsRow B 2 1 (.slice fo ((fol o (ws.take j)).length + 1) fc) ((fol o (ws.take j)).length + 1) (icells (ints (fol o (ws.take j))) ++ [.int .i64 (a : Int)]) → (w1.alloc (.cells #[.int .i64 (a : Int)] 2)).grownBy w3 (Value.ownBlock (.slice oa (fol o (ws.take j)).length oc)) →
            (Value.ownBlock (.slice fo ((fol o (ws.take j)).length + 1) fc) = Value.ownBlock (.slice oa (fol o (ws.take j)).length oc) ∨ Value.ownBlock (.slice fo ((fol o (ws.take j)).length + 1) fc) = some (w1.alloc (.cells #[.int .i64 (a : Int)] 2)).heap.size) → _) := fun w3 fo fc q1 q2 q3 => ht'.put gr2 m1 hm al q1 q2 q3
          have GF : Hid (∀ w3, (w1.alloc (.cells #[.int .i64 (a : Int)] 2)).grownBy w3 (Value.ownBlock (.slice oa (fol o (ws.take j)).length oc)) → w3.frozen? ⟨T, 0, none⟩ = false ∧ w3.cell? ⟨T, 0, none⟩ = some (.slice oa (fol o (ws.take j)).length oc)) := fun w3 q => by
            have R := (Grew.grown q).row ((Grew.new al (fun _ => False)).row R1 (fun q => q)) ht'.ap.1
            exact ⟨R.frozen 0, R.cell (i := 0) (by omega)⟩
          have LO : Hid (∀ b, Value.ownBlock (.slice oa (fol o (ws.take j)).length oc) = some b → ov.ownBlock = some b ∨ w.heap.size ≤ b) := hl'
          have HSZ : Hid (w.heap.size ≤ wr.heap.size) := HG.out.size
          clear b0 b1 R1 O1 mpd hrun m1 gr1 hm
          go_wp2_with (at_builtin; refine app_at _ rfl _ _ rfl B _ (fol o (ws.take j)).length (icells (ints (fol o (ws.take j)))) rfl O2 _ 1 a rfl (hc _) (by omega) (Nat.le_trans sB (by simp)) ?_; intro v4 w4 hown4 hg4 hloc; (obtain ⟨fo, fc, hv4⟩ := own_shape hown4); subst hv4; have hg5 : (w1.alloc (.cells #[.int .i64 (a : Int)] 2)).grownBy w4 (Value.ownBlock (.slice oa (fol o (ws.take j)).length oc)) := hg4; have SF := PT.out w4 fo fc hown4 hg5 hloc; (obtain ⟨fz, cz⟩ := GF.out w4 hg5))
          obtain ⟨sf1, sf2, sf3⟩ := SF
          refine ⟨⟨j + 1, n' + 1, _, by omega, by go_num, by rw [F1.out]; exact sf1, by omega, fun b e => ?_, HG.out.trans' sf2 (fun b e => ?_)⟩, by simp [intOf]; omega⟩
          · rcases sf3 b e with k | k
            · exact LO.out b k
            · exact .inr (Nat.le_trans HSZ.out k)
          · rcases e with e | e | e
            · exact .inl (.inl e)
            · exact .inl (.inr (.inl e))
            · rcases LO.out b e with k | k
              · exact .inl (.inr (.inr k))
              · exact .inr k
    · obtain rfl : j = ws.length := by omega
      rw [List.take_length] at ht'
      have G : Hid (FolOut B T M n o ov ws w (.returned (.tuple #[])) wr) := ⟨rfl, ov', n', ht', hn', hl', hg⟩
      clear ht' hg hva hvc ho
      go_wp2
      exact bodyPost_ret (v := .tuple #[]) (by simp [results, Tryz.results77, go_sem]) rfl G.out

end Go.Proofs.YtphkmgalgngjiaaGreat
