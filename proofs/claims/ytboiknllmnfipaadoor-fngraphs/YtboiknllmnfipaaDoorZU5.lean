
import Derived.Test.YtboiknllmnfipaaDoorZU4
import Derived.Test.YtboiknllmnfipaaDoorZU1
/- Rows of nodes, and graphs that were made since. -/
namespace Go.Proofs.YtboiknllmnfipaaDoor
open Go.RowKit

/-- The cells of a row of nodes. -/
def Trip (xs : List Value) (ns : List Nd) (fv : Nat → Value) : Prop :=
  xs.length = ns.length * 3 ∧ ∀ i, i < ns.length → xs[i * 3]? = some (.int .i64 (ns.getD i nd0).cls) ∧ xs[i * 3 + 1]? = some (.int .i64 (ns.getD i nd0).hash) ∧ xs[i * 3 + 2]? = some (fv i)
theorem Trip.nil (fv : Nat → Value) : Trip [] [] fv := ⟨rfl, fun i hi => by simp at hi⟩
theorem Trip.snoc {xs : List Value} {ns : List Nd} {fv : Nat → Value} (h : Trip xs ns fv) (c z : Int) (fl : List Int) (f : Value) :
    Trip (xs ++ [.int .i64 c, .int .i64 z, f]) (ns ++ [⟨c, z, fl⟩]) (fun i => if i = ns.length then f else fv i) := by
  obtain ⟨hl, h⟩ := h
  refine ⟨by simp [hl]; omega, fun i hi => ?_⟩
  have hi' : i < ns.length + 1 := by simpa using hi
  by_cases e : i = ns.length
  · subst e
    rw [← hl, List.getElem?_append_right (by omega), List.getElem?_append_right (by omega), List.getElem?_append_right (by omega)]
    simp
  · have hlt : i < ns.length := by omega
    obtain ⟨h0, h1, h2⟩ := h i hlt
    rw [List.getElem?_append_left (by omega), List.getElem?_append_left (by omega), List.getElem?_append_left (by omega)]
    have ef : (fun i => if i = ns.length then f else fv i) i = fv i := if_neg e
    rw [ef]
    have eg : (ns ++ [(⟨c, z, fl⟩ : Nd)]).getD i nd0 = ns.getD i nd0 := by simp [List.getD_eq_getElem?_getD, List.getElem?_append_left hlt]
    rw [eg]
    exact ⟨h0, h1, h2⟩
theorem own_cell3 {w : World} {B e : Nat} {v : Value} {n : Nat} {xs : List Value} (h : w.ownsRow B e 3 v n xs) : ∃ ao cap, v = .slice ao n cap ∧ n ≤ cap ∧ ∀ j, j < n * 3 → ∃ b, ao = some ⟨b, 0, none⟩ ∧ w.cell? ⟨b, j, none⟩ = xs[j]? := by
  obtain ⟨hl, h⟩ := h
  rcases h with ⟨rfl, rfl⟩ | ⟨g, cap, cur, rfl, hB, hh, h1, h2, h3, h4⟩
  · exact ⟨none, 0, rfl, Nat.le_refl _, fun i hi => by omega⟩
  · refine ⟨_, cap, rfl, h1, fun i hi => ⟨g, rfl, ?_⟩⟩
    rw [← h4, List.getElem?_take_of_lt (by omega)]
    simp [World.cell?, hh]
/-- Nodes of which the row is owned and the fields read, in blocks of K. -/
def NK (B : Nat) (w : World) (nv : Value) (ns : List Nd) (K : Nat → Prop) : Prop :=
  ∃ xs fv, w.ownsRow B 37 3 nv ns.length xs ∧ Trip xs ns fv ∧ ∀ i, i < ns.length → IR w (fv i) (ns.getD i nd0).fl ∧ ∀ b, inB (fv i) b → K b
theorem NK.nr {B : Nat} {w : World} {nv : Value} {ns : List Nd} {K : Nat → Prop} (h : NK B w nv ns K) : NR w nv ns := by
  obtain ⟨xs, fv, ho, ht, hf⟩ := h
  obtain ⟨ao, cap, rfl, hle, hc⟩ := own_cell3 ho
  refine ⟨ao, cap, rfl, hle, fun i hi => ?_⟩
  obtain ⟨b, rfl, c0⟩ := hc (i * 3) (by omega)
  obtain ⟨_, e1, c1⟩ := hc (i * 3 + 1) (by omega)
  obtain ⟨_, e2, c2⟩ := hc (i * 3 + 2) (by omega)
  cases e1
  cases e2
  obtain ⟨t0, t1, t2⟩ := ht.2 i hi
  obtain ⟨fa, fc, hfv, _⟩ := id (hf i hi).1
  refine ⟨b, 0, fa, (ns.getD i nd0).fl.length, fc, rfl, ?_, ?_, ?_, ?_⟩
  · rw [Nat.zero_add, c0, t0]
  · rw [Nat.zero_add, c1, t1]
  · rw [Nat.zero_add, c2, t2, hfv]
  · rw [← hfv]
    exact (hf i hi).1
theorem Grew.nk {w w' : World} {S K : Nat → Prop} {B : Nat} {nv : Value} {ns : List Nd} (h : Grew w w' S) (k : NK B w nv ns K) (h1 : ∀ b, nv.ownBlock = some b → ¬ S b) (h2 : ∀ b, K b → ¬ S b) : NK B w' nv ns K := by
  obtain ⟨xs, fv, ho, ht, hf⟩ := k
  exact ⟨xs, fv, h.own ho h1, ht, fun i hi => ⟨h.ir (hf i hi).1 (fun b q => h2 b ((hf i hi).2 b q)), (hf i hi).2⟩⟩
theorem NK.mono {w : World} {K K' : Nat → Prop} {B : Nat} {nv : Value} {ns : List Nd} (k : NK B w nv ns K) (h : ∀ b, K b → K' b) : NK B w nv ns K' := by
  obtain ⟨xs, fv, ho, ht, hf⟩ := k
  exact ⟨xs, fv, ho, ht, fun i hi => ⟨(hf i hi).1, fun b q => h b ((hf i hi).2 b q)⟩⟩
theorem NK.base {w : World} {K : Nat → Prop} {B B' : Nat} {nv : Value} {ns : List Nd} (k : NK B w nv ns K) (h : B' ≤ B) : NK B' w nv ns K := by
  obtain ⟨xs, fv, ho, ht, hf⟩ := k
  exact ⟨xs, fv, gown_mono ho h, ht, hf⟩
theorem NK.own {w : World} {K : Nat → Prop} {B : Nat} {nv : Value} {ns : List Nd} (k : NK B w nv ns K) : ∀ b, nv.ownBlock = some b → B ≤ b ∧ b < w.heap.size := by
  obtain ⟨xs, fv, ho, ht, hf⟩ := k
  exact ho.lt
/-- A graph that was made since B. -/
def GRn (B : Nat) (w : World) (v : Value) (g : Gr) : Prop := ∃ vr vn K, v = .agg #[vr, vn, .int .i64 g.hash] ∧ (IR w vr g.roots ∧ ∀ b, inB vr b → K b) ∧ NK B w vn g.nodes K ∧ ∀ b, K b → B ≤ b
theorem GRn.gr {B : Nat} {w : World} {v : Value} {g : Gr} (h : GRn B w v g) : GR w v g := by
  obtain ⟨vr, vn, K, e, hr, hn, _⟩ := h
  exact ⟨vr, vn, e, hr.1, hn.nr⟩
theorem Grew.grn {B : Nat} {w w' : World} {v : Value} {g : Gr} {S : Nat → Prop} (q : Grew w w' S) (h : GRn B w v g) (hS : ∀ b, S b → b < B) : GRn B w' v g := by
  obtain ⟨vr, vn, K, e, hr, hn, hK⟩ := h
  exact ⟨vr, vn, K, e, ⟨q.ir hr.1 (fun b k s => by have := hK b (hr.2 b k); have := hS b s; omega), hr.2⟩, q.nk hn (fun b k s => by have := (hn.own b k).1; have := hS b s; omega) (fun b k s => by have := hK b k; have := hS b s; omega), hK⟩
theorem GRn.later {B : Nat} {w w' : World} {v : Value} {g : Gr} (h : GRn B w v g) (hb : Below w.heap.size w w') : GRn B w' v g := (Grew.new hb (fun _ => False)).grn h (fun _ q => q.elim)
theorem GRn.base {B B' : Nat} {w : World} {v : Value} {g : Gr} (h : GRn B w v g) (hB : B' ≤ B) : GRn B' w v g := by
  obtain ⟨vr, vn, K, e, hr, hn, hK⟩ := h
  exact ⟨vr, vn, K, e, hr, hn.base hB, fun b k => by have := hK b k; omega⟩

end Go.Proofs.YtboiknllmnfipaaDoor

/- Graphs as they are read, and the parts of one that is being made. -/
namespace Go.Proofs.YtboiknllmnfipaaDoor
open Go.RowKit

theorem gr_set0 {w : World} {b t : Nat} {rv nv : Value} {hh : Int} (h : w.rowIs b t 3 (grF rv nv hh)) (u : Value) : (w.setCell ⟨b, 0, none⟩ u).rowIs b t 3 (grF u nv hh) :=
  (h.set 0 u).congr fun i _ => by unfold grF; by_cases e : i = 0 <;> simp [e]
theorem gr_set1 {w : World} {b t : Nat} {rv nv : Value} {hh : Int} (h : w.rowIs b t 3 (grF rv nv hh)) (u : Value) : (w.setCell ⟨b, 1, none⟩ u).rowIs b t 3 (grF rv u hh) :=
  (h.set 1 u).congr fun i _ => by
    unfold grF
    by_cases e : i = 1
    · simp [e]
    · by_cases e0 : i = 0
      · simp [e0]
      · simp [e, e0]
def ndF (c z : Int) (f : Value) (i : Nat) : Value := if i = 0 then .int .i64 c else if i = 1 then .int .i64 z else f
theorem nd_set2 {w : World} {b t : Nat} {c z : Int} {f : Value} (h : w.rowIs b t 3 (ndF c z f)) (u : Value) : (w.setCell ⟨b, 2, none⟩ u).rowIs b t 3 (ndF c z u) :=
  (h.set 2 u).congr fun i hi => by
    unfold ndF
    by_cases e : i = 2
    · simp [e]
    · rw [if_neg e]
      by_cases e0 : i = 0
      · simp [e0]
      · by_cases e1 : i = 1
        · simp [e1]
        · omega

/-- A graph in the making: its roots come. -/
structure Sh1 (N : Nat) (W0 wr : World) (hh : Int) (o : List Nat) (rl : List Int) (ov rv : Value) : Prop where
  bel : Below (N + 2) W0 wr
  sz : N + 5 ≤ wr.heap.size
  num : wr.rowIs (N + 2) 2 3200 (nmF o)
  ord : wr.ownsRow (N + 3) 2 1 ov o.length (icells (ints o))
  ordg : ov.ownBlock ≠ some (N + 4)
  g : wr.rowIs (N + 4) 27 3 (grF rv (.slice none 0 0) hh)
  rt : wr.ownsRow (N + 5) 2 1 rv rl.length (icells rl)
  ap : ∀ b, rv.ownBlock = some b → ov.ownBlock ≠ some b

theorem Sh1.told {N : Nat} {W0 wr w1 : World} {hh : Int} {o o1 : List Nat} {rl : List Int} {ov rv ov1 : Value} (s : Sh1 N W0 wr hh o rl ov rv)
    (r : w1.rowIs (N + 2) 2 3200 (nmF o1)) (ho : w1.ownsRow (N + 3) 2 1 ov1 o1.length (icells (ints o1))) (hl : ov1.ownBlock = ov.ownBlock ∨ ∃ b, ov1.ownBlock = some b ∧ wr.heap.size ≤ b)
    (g : Grew wr w1 (fun k => k = N + 2 ∨ ov.ownBlock = some k)) : Sh1 N W0 w1 hh o1 rl ov1 rv := by
  have hsz := s.sz
  have ob := s.ord.lt
  have rb := s.rt.lt
  refine ⟨s.bel.trans (g.below (by omega) fun b _ q => ?_), Nat.le_trans s.sz g.size, r, ho, ?_, g.row s.g ?_, g.own s.rt ?_, ?_⟩
  · rcases q with q | q
    · omega
    · have := (ob b q).1; omega
  · rcases hl with e | ⟨b, e, hb⟩
    · rw [e]; exact s.ordg
    · rw [e]; simp; omega
  · rintro (q | q)
    · omega
    · exact s.ordg q
  · rintro b e (q | q)
    · have := (rb b e).1; omega
    · exact s.ap b e q
  · intro b e
    have := (rb b e).2
    rcases hl with q | ⟨b', q, hb⟩
    · rw [q]; exact s.ap b e
    · rw [q]; simp; omega
/-- A root comes behind the others. -/
theorem Sh1.root {N : Nat} {W0 wr w2 w3 : World} {hh : Int} {o : List Nat} {rl : List Int} {ov rv rv1 : Value} {x : Int} (s : Sh1 N W0 wr hh o rl ov rv) (a : Below wr.heap.size wr w2)
    (ho : w3.ownsRow (N + 5) 2 1 rv1 (rl.length + 1) (icells rl ++ [.int .i64 x])) (g : w2.grownBy w3 rv.ownBlock) (hl : rv1.ownBlock = rv.ownBlock ∨ rv1.ownBlock = some w2.heap.size) :
    Sh1 N W0 (w3.setCell ⟨N + 4, 0, none⟩ rv1) hh o (rl ++ [x]) ov rv1 := by
  have hsz := s.sz
  have ob := s.ord.lt
  have rb := s.rt.lt
  have az := a.size
  have G1 : Grew wr w3 (fun k => rv.ownBlock = some k) := (Grew.new a _).trans (Grew.grown g)
  have gg := G1.row s.g (fun q => by have := (rb _ q).1; omega)
  have G2 := Grew.set w3 (N + 4) 0 rv1
  have ne4 : ∀ b, rv1.ownBlock = some b → b ≠ N + 4 := fun b e => by have := (ho.lt b e).1; omega
  refine ⟨(s.bel.trans (G1.below (by omega) fun b _ q => by have := (rb b q).1; omega)).trans (G2.below (by have := G1.size; omega) fun b _ q => by omega), ?_, ?_, ?_, s.ordg, gr_set0 gg rv1, ?_, ?_⟩
  · have := G1.size; have := G2.size; omega
  · exact G2.row (G1.row s.num (fun q => by have := (rb _ q).1; omega)) (by omega)
  · exact G2.own (G1.own s.ord (fun b e q => s.ap b q e)) (fun b e q => s.ordg (by rw [e, q]))
  · have := G2.own ho ne4
    simpa [icells] using this
  · intro b e q
    have := (ob b q).2
    rcases hl with k | k
    · exact s.ap b (by rw [← k]; exact e) q
    · rw [k] at e; simp at e; omega

/-- A graph in the making: its nodes come. K: the blocks of what is done. -/
structure Sh2 (N : Nat) (W0 wr : World) (hh : Int) (o : List Nat) (rl : List Int) (ns : List Nd) (ov rv nv : Value) (K : Nat → Prop) : Prop where
  bel : Below (N + 2) W0 wr
  sz : N + 5 ≤ wr.heap.size
  num : wr.rowIs (N + 2) 2 3200 (nmF o)
  ord : wr.ownsRow (N + 3) 2 1 ov o.length (icells (ints o))
  ordg : ov.ownBlock ≠ some (N + 4)
  g : wr.rowIs (N + 4) 27 3 (grF rv nv hh)
  nd : NK (N + 5) wr nv ns K
  ndb : ∀ b, nv.ownBlock = some b → N + 5 ≤ b ∧ b < wr.heap.size ∧ ov.ownBlock ≠ some b
  rt : IR wr rv rl ∧ ∀ b, inB rv b → K b
  kk : ∀ b, K b → N + 5 ≤ b ∧ b < wr.heap.size ∧ ov.ownBlock ≠ some b ∧ nv.ownBlock ≠ some b

theorem Sh1.two {N : Nat} {W0 wr : World} {hh : Int} {o : List Nat} {rl : List Int} {ov rv : Value} (s : Sh1 N W0 wr hh o rl ov rv) : Sh2 N W0 wr hh o rl [] ov rv (.slice none 0 0) (fun b => rv.ownBlock = some b) :=
  ⟨s.bel, s.sz, s.num, s.ord, s.ordg, s.g, ⟨[], fun _ => .slice none 0 0, World.ownsRow_nil _ _ _ _, Trip.nil _, fun i hi => by simp at hi⟩, fun b e => by simp [Value.ownBlock] at e,
    ⟨IR_of_owns s.rt, fun b k => inB_own s.rt k⟩, fun b e => ⟨(s.rt.lt b e).1, (s.rt.lt b e).2, s.ap b e, by simp [Value.ownBlock]⟩⟩

theorem Sh2.told {N : Nat} {W0 wr w1 : World} {hh : Int} {o o1 : List Nat} {rl : List Int} {ns : List Nd} {ov rv nv ov1 : Value} {K : Nat → Prop} (s : Sh2 N W0 wr hh o rl ns ov rv nv K)
    (r : w1.rowIs (N + 2) 2 3200 (nmF o1)) (ho : w1.ownsRow (N + 3) 2 1 ov1 o1.length (icells (ints o1))) (hl : ov1.ownBlock = ov.ownBlock ∨ ∃ b, ov1.ownBlock = some b ∧ wr.heap.size ≤ b)
    (g : Grew wr w1 (fun k => k = N + 2 ∨ ov.ownBlock = some k)) : Sh2 N W0 w1 hh o1 rl ns ov1 rv nv K := by
  have hsz := s.sz
  have gsz := g.size
  have ob := s.ord.lt
  have nn : ∀ b, b < wr.heap.size → ov.ownBlock ≠ some b → ov1.ownBlock ≠ some b := fun b h1 h2 => by
    rcases hl with e | ⟨b', e, hb⟩
    · rw [e]; exact h2
    · rw [e]; simp; omega
  have kS : ∀ b, K b → ¬ (b = N + 2 ∨ ov.ownBlock = some b) := fun b k q => by
    obtain ⟨k1, k2, k3, k4⟩ := s.kk b k
    rcases q with q | q
    · omega
    · exact k3 q
  refine ⟨s.bel.trans (g.below (by omega) fun b _ q => ?_), by omega, r, ho, nn _ (by omega) s.ordg, g.row s.g ?_, g.nk s.nd ?_ kS, ?_, ⟨g.ir s.rt.1 (fun b q => kS b (s.rt.2 b q)), s.rt.2⟩, ?_⟩
  · rcases q with q | q
    · omega
    · have := (ob b q).1; omega
  · rintro (q | q)
    · omega
    · exact s.ordg q
  · rintro b e (q | q)
    · have := (s.ndb b e).1; omega
    · exact (s.ndb b e).2.2 q
  · intro b e
    obtain ⟨h1, h2, h3⟩ := s.ndb b e
    exact ⟨h1, by omega, nn b h2 h3⟩
  · intro b k
    obtain ⟨h1, h2, h3, h4⟩ := s.kk b k
    exact ⟨h1, by omega, nn b h2 h3, h4⟩
theorem Sh2.new {N : Nat} {W0 wr w1 : World} {hh : Int} {o : List Nat} {rl : List Int} {ns : List Nd} {ov rv nv : Value} {K : Nat → Prop} (s : Sh2 N W0 wr hh o rl ns ov rv nv K) {S : Nat → Prop} (g : Grew wr w1 S)
    (h1 : ∀ b, S b → N + 5 ≤ b ∧ ov.ownBlock ≠ some b ∧ nv.ownBlock ≠ some b ∧ ¬ K b) : Sh2 N W0 w1 hh o rl ns ov rv nv K := by
  have hsz := s.sz
  have gsz := g.size
  refine ⟨s.bel.trans (g.below (by omega) fun b _ q => by have := (h1 b q).1; omega), by omega, g.row s.num (fun q => by have := (h1 _ q).1; omega), g.own s.ord (fun b e q => (h1 b q).2.1 e), s.ordg, g.row s.g (fun q => by have := (h1 _ q).1; omega),
    g.nk s.nd (fun b e q => (h1 b q).2.2.1 e) (fun b k q => (h1 b q).2.2.2 k), fun b e => ?_, ⟨g.ir s.rt.1 (fun b q k => (h1 b k).2.2.2 (s.rt.2 b q)), s.rt.2⟩, fun b k => ?_⟩
  · obtain ⟨q1, q2, q3⟩ := s.ndb b e
    exact ⟨q1, by omega, q3⟩
  · obtain ⟨q1, q2, q3, q4⟩ := s.kk b k
    exact ⟨q1, by omega, q3, q4⟩

/-- .. and one of them has its fields coming. -/
structure Sh3 (N : Nat) (W0 wr : World) (hh : Int) (o : List Nat) (rl : List Int) (ns : List Nd) (ov rv nv : Value) (K : Nat → Prop) (bn : Nat) (c z : Int) (fl : List Int) (fv : Value) : Prop where
  s : Sh2 N W0 wr hh o rl ns ov rv nv K
  bnl : N + 5 ≤ bn
  bnk : ¬ K bn ∧ ov.ownBlock ≠ some bn ∧ nv.ownBlock ≠ some bn ∧ fv.ownBlock ≠ some bn
  nb : wr.rowIs bn 37 3 (ndF c z fv)
  fo : wr.ownsRow (N + 5) 2 1 fv fl.length (icells fl)
  fap : ∀ b, fv.ownBlock = some b → ov.ownBlock ≠ some b ∧ nv.ownBlock ≠ some b ∧ ¬ K b

theorem Sh3.told {N : Nat} {W0 wr w1 : World} {hh : Int} {o o1 : List Nat} {rl : List Int} {ns : List Nd} {ov rv nv ov1 : Value} {K : Nat → Prop} {bn : Nat} {c z : Int} {fl : List Int} {fv : Value} (s : Sh3 N W0 wr hh o rl ns ov rv nv K bn c z fl fv)
    (r : w1.rowIs (N + 2) 2 3200 (nmF o1)) (ho : w1.ownsRow (N + 3) 2 1 ov1 o1.length (icells (ints o1))) (hl : ov1.ownBlock = ov.ownBlock ∨ ∃ b, ov1.ownBlock = some b ∧ wr.heap.size ≤ b)
    (g : Grew wr w1 (fun k => k = N + 2 ∨ ov.ownBlock = some k)) : Sh3 N W0 w1 hh o1 rl ns ov1 rv nv K bn c z fl fv := by
  have hb := s.bnl
  have hlt := s.nb.lt
  have nn : ∀ b, b < wr.heap.size → ov.ownBlock ≠ some b → ov1.ownBlock ≠ some b := fun b h1 h2 => by
    rcases hl with e | ⟨b', e, hb⟩
    · rw [e]; exact h2
    · rw [e]; simp; omega
  refine ⟨s.s.told r ho hl g, hb, ⟨s.bnk.1, nn _ hlt s.bnk.2.1, s.bnk.2.2⟩, g.row s.nb ?_, g.own s.fo ?_, fun b e => ⟨nn _ (s.fo.lt b e).2 (s.fap b e).1, (s.fap b e).2⟩⟩
  · rintro (q | q)
    · omega
    · exact s.bnk.2.1 q
  · rintro b e (q | q)
    · have := (s.fo.lt b e).1; omega
    · exact (s.fap b e).1 q
/-- A field comes behind the others. -/
theorem Sh3.field {N : Nat} {W0 wr w2 w3 : World} {hh : Int} {o : List Nat} {rl : List Int} {ns : List Nd} {ov rv nv : Value} {K : Nat → Prop} {bn : Nat} {c z x : Int} {fl : List Int} {fv fv1 : Value} (s : Sh3 N W0 wr hh o rl ns ov rv nv K bn c z fl fv)
    (a : Below wr.heap.size wr w2) (ho : w3.ownsRow (N + 5) 2 1 fv1 (fl.length + 1) (icells fl ++ [.int .i64 x])) (g : w2.grownBy w3 fv.ownBlock) (hl : fv1.ownBlock = fv.ownBlock ∨ fv1.ownBlock = some w2.heap.size) :
    Sh3 N W0 (w3.setCell ⟨bn, 2, none⟩ fv1) hh o rl ns ov rv nv K bn c z (fl ++ [x]) fv1 := by
  have hb := s.bnl
  have hlt := s.nb.lt
  have az := a.size
  have G1 : Grew wr w3 (fun k => fv.ownBlock = some k) := (Grew.new a _).trans (Grew.grown g)
  have G2 := Grew.set w3 bn 2 fv1
  have f1 : ∀ b, fv1.ownBlock = some b → fv.ownBlock = some b ∨ wr.heap.size ≤ b := fun b e => by
    rcases hl with k | k
    · exact .inl (by rw [← k]; exact e)
    · rw [k] at e; simp at e; exact .inr (by omega)
  have nbn : fv1.ownBlock ≠ some bn := fun e => by
    rcases f1 bn e with k | k
    · exact s.bnk.2.2.2 k
    · omega
  refine ⟨(s.s.new G1 fun b e => ⟨(s.fo.lt b e).1, s.fap b e⟩).new G2 fun b e => ?_, hb, ⟨s.bnk.1, s.bnk.2.1, s.bnk.2.2.1, nbn⟩, nd_set2 (G1.row s.nb s.bnk.2.2.2) fv1, ?_, fun b e => ?_⟩
  · subst e
    exact ⟨hb, s.bnk.2.1, s.bnk.2.2.1, s.bnk.1⟩
  · have := G2.own ho (fun b e q => nbn (by rw [e, q]))
    simpa [icells] using this
  · rcases f1 b e with k | k
    · exact s.fap b k
    · refine ⟨fun q => ?_, fun q => ?_, fun q => ?_⟩
      · have := (s.s.ord.lt b q).2; omega
      · have := (s.s.ndb b q).2.1; omega
      · have := (s.s.kk b q).2.1; omega
/-- The node is done, and comes behind the others. -/
theorem Sh3.done {N : Nat} {W0 wr w2 w3 : World} {hh : Int} {o : List Nat} {rl : List Int} {ns : List Nd} {ov rv nv nv1 : Value} {K : Nat → Prop} {bn : Nat} {c z : Int} {fl : List Int} {fv : Value} (s : Sh3 N W0 wr hh o rl ns ov rv nv K bn c z fl fv)
    (a : Below wr.heap.size wr w2) {xs : List Value} {fw : Nat → Value} (ht : Trip xs ns fw) (hf : ∀ i, i < ns.length → IR wr (fw i) (ns.getD i nd0).fl ∧ ∀ b, inB (fw i) b → K b)
    (ho : w3.ownsRow (N + 5) 37 3 nv1 (ns.length + 1) (xs ++ [.int .i64 c, .int .i64 z, fv])) (g : w2.grownBy w3 nv.ownBlock) (hl : nv1.ownBlock = nv.ownBlock ∨ nv1.ownBlock = some w2.heap.size) :
    Sh2 N W0 (w3.setCell ⟨N + 4, 1, none⟩ nv1) hh o rl (ns ++ [⟨c, z, fl⟩]) ov rv nv1 (fun b => K b ∨ fv.ownBlock = some b) := by
  have hsz := s.s.sz
  have az := a.size
  have G1 : Grew wr w3 (fun k => nv.ownBlock = some k) := (Grew.new a _).trans (Grew.grown g)
  have G2 := Grew.set w3 (N + 4) 1 nv1
  have g1z := G1.size
  have g2z := G2.size
  have n1 : ∀ b, nv1.ownBlock = some b → nv.ownBlock = some b ∨ wr.heap.size ≤ b := fun b e => by
    rcases hl with k | k
    · exact .inl (by rw [← k]; exact e)
    · rw [k] at e; simp at e; exact .inr (by omega)
  have n5 : ∀ b, nv1.ownBlock = some b → N + 5 ≤ b := fun b e => (ho.lt b e).1
  refine ⟨(s.s.bel.trans (G1.below (by omega) fun b _ q => by have := (s.s.ndb b q).1; omega)).trans (G2.below (by omega) fun b _ q => by omega), by omega, ?_, ?_, s.s.ordg, gr_set1 (G1.row s.s.g fun q => by have := (s.s.ndb _ q).1; omega) nv1, ?_, fun b e => ⟨n5 b e, ?_, fun q => ?_⟩, ⟨?_, fun b q => .inl (s.s.rt.2 b q)⟩, ?_⟩
  · exact G2.row (G1.row s.s.num fun q => by have := (s.s.ndb _ q).1; omega) (by omega)
  · exact G2.own (G1.own s.s.ord fun b e q => (s.s.ndb b q).2.2 e) (fun b e q => s.s.ordg (by rw [e, q]))
  · refine ⟨_, _, (show (w3.setCell ⟨N + 4, 1, none⟩ nv1).ownsRow (N + 5) _ 3 nv1 (ns ++ [(⟨c, z, fl⟩ : Nd)]).length _ from ?_), ht.snoc c z fl fv, fun i hi => ?_⟩
    · have := G2.own ho (fun b e q => by have := n5 b e; omega)
      simpa using this
    · have hi' : i < ns.length + 1 := by simpa using hi
      by_cases e : i = ns.length
      · subst e
        have e2 : (ns ++ [(⟨c, z, fl⟩ : Nd)]).getD ns.length nd0 = ⟨c, z, fl⟩ := by simp
        rw [if_pos rfl, e2]
        refine ⟨G2.ir (G1.ir (IR_of_owns s.fo) fun b q k => ?_) fun b q k => ?_, fun b q => .inr (inB_own s.fo q)⟩
        · exact (s.fap b (inB_own s.fo q)).2.1 k
        · have := (s.fo.lt b (inB_own s.fo q)).1; omega
      · have hlt : i < ns.length := by omega
        have eg : (ns ++ [(⟨c, z, fl⟩ : Nd)]).getD i nd0 = ns.getD i nd0 := by simp [List.getD_eq_getElem?_getD, List.getElem?_append_left hlt]
        rw [if_neg e, eg]
        obtain ⟨f1, f2⟩ := hf i hlt
        refine ⟨G2.ir (G1.ir f1 fun b q k => (s.s.kk b (f2 b q)).2.2.2 k) fun b q k => ?_, fun b q => .inl (f2 b q)⟩
        have := (s.s.kk b (f2 b q)).1; omega
  · have := (ho.lt b e).2; omega
  · rcases n1 b e with k | k
    · exact (s.s.ndb b k).2.2 q
    · have := (s.s.ord.lt b q).2; omega
  · refine G2.ir (G1.ir s.s.rt.1 fun b q k => (s.s.kk b (s.s.rt.2 b q)).2.2.2 k) fun b q k => ?_
    have := (s.s.kk b (s.s.rt.2 b q)).1; omega
  · rintro b (k | k)
    · obtain ⟨k1, k2, k3, k4⟩ := s.s.kk b k
      exact ⟨k1, by omega, k3, fun q => by
        rcases n1 b q with e | e
        · exact k4 e
        · omega⟩
    · obtain ⟨k1, k2⟩ := s.fo.lt b k
      obtain ⟨k3, k4, k5⟩ := s.fap b k
      exact ⟨k1, by omega, k3, fun q => by
        rcases n1 b q with e | e
        · exact k4 e
        · omega⟩

end Go.Proofs.YtboiknllmnfipaaDoor

/- Graphs that own their memory. -/
namespace Go.Proofs.YtboiknllmnfipaaDoor
open Go.RowKit

/-- Nodes that own their memory, since B; no two lie in one row. -/
def NOwn (B : Nat) (w : World) (nv : Value) (ns : List Nd) (fv : Nat → Value) : Prop :=
  ∃ xs, w.ownsRow B 37 3 nv ns.length xs ∧ Trip xs ns fv ∧ (∀ i, i < ns.length → w.ownsRow B 2 1 (fv i) (ns.getD i nd0).fl.length (icells (ns.getD i nd0).fl)) ∧
    ∀ i j, i < ns.length → j < ns.length → i ≠ j → ∀ b, (fv i).ownBlock = some b → (fv j).ownBlock ≠ some b
/-- A graph that owns its memory. -/
def GN (B : Nat) (w : World) (v : Value) (g : Gr) : Prop :=
  ∃ vr vn fv, v = .agg #[vr, vn, .int .i64 g.hash] ∧ w.ownsRow B 2 1 vr g.roots.length (icells g.roots) ∧ NOwn B w vn g.nodes fv ∧ ∀ i, i < g.nodes.length → ∀ b, vr.ownBlock = some b → (fv i).ownBlock ≠ some b
theorem type_ne {w : World} {B B' e e' s s' n n' b : Nat} {v v' : Value} {xs xs' : List Value} (h : w.ownsRow B e s v n xs) (h' : w.ownsRow B' e' s' v' n' xs') (ne : e ≠ e') (hb : v.ownBlock = some b) : v'.ownBlock ≠ some b := by
  intro hb'
  rcases h.2 with ⟨rfl, _⟩ | ⟨g, cap, cur, rfl, _, hh, _⟩
  · simp [Value.ownBlock] at hb
  · rcases h'.2 with ⟨rfl, _⟩ | ⟨g', cap', cur', rfl, _, hh', _⟩
    · simp [Value.ownBlock] at hb'
    · simp [Value.ownBlock] at hb hb'
      subst hb hb'
      rw [hh] at hh'
      simp at hh'
      exact ne hh'.2
theorem NOwn.nk {B : Nat} {w : World} {nv : Value} {ns : List Nd} {fv : Nat → Value} (h : NOwn B w nv ns fv) : NK B w nv ns (fun b => B ≤ b ∧ b < w.heap.size) := by
  obtain ⟨xs, ho, ht, hf, _⟩ := h
  exact ⟨xs, fv, ho, ht, fun i hi => ⟨IR_of_owns (hf i hi), fun b k => (hf i hi).lt b (inB_own (hf i hi) k)⟩⟩
theorem GN.grn {B : Nat} {w : World} {v : Value} {g : Gr} (h : GN B w v g) : GRn B w v g := by
  obtain ⟨vr, vn, fv, e, hr, hn, _⟩ := h
  exact ⟨vr, vn, _, e, ⟨IR_of_owns hr, fun b k => hr.lt b (inB_own hr k)⟩, hn.nk, fun b k => k.1⟩
theorem Grew.nown {B : Nat} {w w' : World} {nv : Value} {ns : List Nd} {fv : Nat → Value} {S : Nat → Prop} (q : Grew w w' S) (h : NOwn B w nv ns fv) (hS : ∀ b, S b → b < B) : NOwn B w' nv ns fv := by
  obtain ⟨xs, ho, ht, hf, ha⟩ := h
  exact ⟨xs, q.own ho (fun b e s => by have := (ho.lt b e).1; have := hS b s; omega), ht, fun i hi => q.own (hf i hi) (fun b e s => by have := ((hf i hi).lt b e).1; have := hS b s; omega), ha⟩
theorem Grew.gn {B : Nat} {w w' : World} {v : Value} {g : Gr} {S : Nat → Prop} (q : Grew w w' S) (h : GN B w v g) (hS : ∀ b, S b → b < B) : GN B w' v g := by
  obtain ⟨vr, vn, fv, e, hr, hn, ha⟩ := h
  exact ⟨vr, vn, fv, e, q.own hr (fun b e s => by have := (hr.lt b e).1; have := hS b s; omega), q.nown hn hS, ha⟩
theorem GN.later {B : Nat} {w w' : World} {v : Value} {g : Gr} (h : GN B w v g) (hb : Below w.heap.size w w') : GN B w' v g := (Grew.new hb (fun _ => False)).gn h (fun _ q => q.elim)
theorem GN.base {B B' : Nat} {w : World} {v : Value} {g : Gr} (h : GN B w v g) (hB : B' ≤ B) : GN B' w v g := by
  obtain ⟨vr, vn, fv, e, hr, ⟨xs, ho, ht, hf, ha⟩, h2⟩ := h
  exact ⟨vr, vn, fv, e, gown_mono hr hB, ⟨xs, gown_mono ho hB, ht, fun i hi => gown_mono (hf i hi) hB, ha⟩, h2⟩
/-- One node more, whose fields were made since. -/
theorem NOwn.snoc {B : Nat} {w w1 w2 w3 : World} {nv nv1 f : Value} {ns : List Nd} {fv : Nat → Value} {c z : Int} {fl : List Int} (h : NOwn B w nv ns fv) (b1 : Below w.heap.size w w1) (hf : w1.ownsRow w.heap.size 2 1 f fl.length (icells fl)) (hB : B ≤ w.heap.size)
    (b2 : Below w1.heap.size w1 w2) {xs : List Value} (ht : Trip xs ns fv) (ho : w3.ownsRow B 37 3 nv1 (ns.length + 1) (xs ++ [.int .i64 c, .int .i64 z, f])) (g : w2.grownBy w3 nv.ownBlock) :
    NOwn B w3 nv1 (ns ++ [⟨c, z, fl⟩]) (fun i => if i = ns.length then f else fv i) := by
  obtain ⟨xs0, ho0, _, hf0, ha0⟩ := h
  have o1 : w1.ownsRow B _ 3 nv ns.length xs0 := own_later ho0 b1
  have G : Grew w1 w3 (fun k => nv.ownBlock = some k) := (Grew.new b2 _).trans (Grew.grown g)
  have oF : w3.ownsRow B 2 1 f fl.length (icells fl) := gown_mono (G.own hf (fun b e q => type_ne hf o1 (by decide) e q)) hB
  have oI : ∀ i, i < ns.length → w3.ownsRow B 2 1 (fv i) (ns.getD i nd0).fl.length (icells (ns.getD i nd0).fl) := fun i hi => G.own (own_later (hf0 i hi) b1) (fun b e q => type_ne (hf0 i hi) ho0 (by decide) e q)
  have eg : ∀ i, i < ns.length → (ns ++ [(⟨c, z, fl⟩ : Nd)]).getD i nd0 = ns.getD i nd0 := fun i hi => by simp [List.getD_eq_getElem?_getD, List.getElem?_append_left hi]
  have en : (ns ++ [(⟨c, z, fl⟩ : Nd)]).getD ns.length nd0 = ⟨c, z, fl⟩ := by simp
  have hl : (ns ++ [(⟨c, z, fl⟩ : Nd)]).length = ns.length + 1 := by simp
  refine ⟨_, by rw [hl]; exact ho, ht.snoc c z fl f, fun i hi => ?_, fun i j hi hj ne b e => ?_⟩
  · rw [hl] at hi
    dsimp only
    by_cases e : i = ns.length
    · subst e
      rw [if_pos rfl, en]
      exact oF
    · rw [if_neg e, eg i (by omega)]
      exact oI i (by omega)
  · rw [hl] at hi hj
    dsimp only at e ⊢
    by_cases e1 : i = ns.length
    · rw [if_pos e1] at e
      rw [if_neg (by omega)]
      intro q
      have h1 := (hf.lt b e).1
      have h2 := ((hf0 j (by omega)).lt b q).2
      omega
    · rw [if_neg e1] at e
      by_cases e2 : j = ns.length
      · rw [if_pos e2]
        intro q
        have h1 := (hf.lt b q).1
        have h2 := ((hf0 i (by omega)).lt b e).2
        omega
      · rw [if_neg e2]
        exact ha0 i j (by omega) (by omega) ne b e
theorem GN.out {B : Nat} {w : World} {v : Value} {g : Gr} (h : GN B w v g) : ∃ ra rc na nc fv, v = .agg #[.slice ra g.roots.length rc, .slice na g.nodes.length nc, .int .i64 g.hash] ∧ w.ownsRow B 2 1 (.slice ra g.roots.length rc) g.roots.length (icells g.roots) ∧ NOwn B w (.slice na g.nodes.length nc) g.nodes fv ∧ ∀ i, i < g.nodes.length → ∀ b, Value.ownBlock (.slice ra g.roots.length rc) = some b → (fv i).ownBlock ≠ some b := by
  obtain ⟨vr, vn, fv, rfl, hr, hn, ha⟩ := h
  obtain ⟨ra, rc, rfl⟩ := own_shape hr
  obtain ⟨na, nc, rfl⟩ : ∃ na nc, vn = .slice na g.nodes.length nc := by
    obtain ⟨xs, no, _⟩ := hn
    exact own_shape no
  exact ⟨ra, rc, na, nc, fv, rfl, hr, hn, ha⟩

end Go.Proofs.YtboiknllmnfipaaDoor

/- A graph in the making whose rows are owned. -/
namespace Go.Proofs.YtboiknllmnfipaaDoor
open Go.RowKit

theorem own_same {w : World} {B B' e s n : Nat} {v : Value} {xs ys : List Value} (h : w.ownsRow B e s v n xs) (h' : w.ownsRow B' e s v n ys) : xs = ys := by
  obtain ⟨hl, h⟩ := h
  obtain ⟨hl', h'⟩ := h'
  rcases h with ⟨rfl, rfl⟩ | ⟨g, cap, cur, rfl, _, hh, _, _, _, q⟩
  · rw [Nat.zero_mul] at hl hl'
    rw [List.eq_nil_of_length_eq_zero hl, List.eq_nil_of_length_eq_zero hl']
  · rcases h' with ⟨e1, _⟩ | ⟨g', cap', cur', e1, _, hh', _, _, _, q'⟩
    · cases e1
    · simp only [Value.slice.injEq, Option.some.injEq, Addr.mk.injEq, true_and, and_true] at e1
      obtain ⟨rfl, rfl⟩ := e1
      rw [hh] at hh'
      simp only [Option.some.injEq, Obj.cells.injEq, and_true] at hh'
      rw [← q, ← q', hh']
theorem gn_zero (B : Nat) (w : World) : GN B w (.agg #[.slice none 0 0, .slice none 0 0, .int .i64 0]) ⟨[], [], 0⟩ :=
  ⟨_, _, fun _ => .slice none 0 0, rfl, World.ownsRow_nil _ _ _ _, ⟨[], World.ownsRow_nil _ _ _ _, Trip.nil _, fun i hi => by simp at hi, fun i j hi => by simp at hi⟩, fun i hi => by simp at hi⟩
/-- What is owned beside what is read: the roots' row, and each node's. -/
structure Ex2 (N : Nat) (wr : World) (rl : List Int) (ns : List Nd) (rv nv : Value) (K : Nat → Prop) : Prop where
  rt : wr.ownsRow (N + 5) 2 1 rv rl.length (icells rl)
  rk : ∀ b, rv.ownBlock = some b → K b
  nd : ∃ xs fv, wr.ownsRow (N + 5) 37 3 nv ns.length xs ∧ Trip xs ns fv ∧ (∀ i, i < ns.length → wr.ownsRow (N + 5) 2 1 (fv i) (ns.getD i nd0).fl.length (icells (ns.getD i nd0).fl) ∧ ∀ b, (fv i).ownBlock = some b → K b ∧ rv.ownBlock ≠ some b) ∧ ∀ i j, i < ns.length → j < ns.length → i ≠ j → ∀ b, (fv i).ownBlock = some b → (fv j).ownBlock ≠ some b
theorem Ex2.keep {N : Nat} {wr w1 : World} {rl : List Int} {ns : List Nd} {rv nv : Value} {K S : Nat → Prop} (e : Ex2 N wr rl ns rv nv K) (g : Grew wr w1 S) (h1 : ∀ b, S b → ¬ K b) (h2 : ∀ b, S b → nv.ownBlock ≠ some b) : Ex2 N w1 rl ns rv nv K := by
  obtain ⟨xs, fv, ho, ht, hf, ha⟩ := e.nd
  exact ⟨g.own e.rt (fun b q s => h1 b s (e.rk b q)), e.rk, xs, fv, g.own ho (fun b q s => h2 b s q), ht, fun i hi => ⟨g.own (hf i hi).1 (fun b q s => h1 b s ((hf i hi).2 b q).1), (hf i hi).2⟩, ha⟩
theorem Sh1.ex2 {N : Nat} {W0 wr : World} {hh : Int} {o : List Nat} {rl : List Int} {ov rv : Value} (s : Sh1 N W0 wr hh o rl ov rv) : Ex2 N wr rl [] rv (.slice none 0 0) (fun b => rv.ownBlock = some b) :=
  ⟨s.rt, fun b e => e, [], fun _ => .slice none 0 0, World.ownsRow_nil _ _ _ _, Trip.nil _, fun i hi => by simp at hi, fun i j hi => by simp at hi⟩
theorem Sh2.exTold {N : Nat} {W0 wr w1 : World} {hh : Int} {o : List Nat} {rl : List Int} {ns : List Nd} {ov rv nv : Value} {K : Nat → Prop} (s : Sh2 N W0 wr hh o rl ns ov rv nv K) (e : Ex2 N wr rl ns rv nv K) (g : Grew wr w1 (fun k => k = N + 2 ∨ ov.ownBlock = some k)) : Ex2 N w1 rl ns rv nv K := by
  refine e.keep g ?_ ?_
  · rintro b (q | q) k
    · have := (s.kk b k).1; omega
    · exact (s.kk b k).2.2.1 q
  · rintro b (q | q) k
    · have := (s.ndb b k).1; omega
    · exact (s.ndb b k).2.2 q
theorem Sh3.exField {N : Nat} {W0 wr w2 w3 : World} {hh : Int} {o : List Nat} {rl : List Int} {ns : List Nd} {ov rv nv : Value} {K : Nat → Prop} {bn : Nat} {c z : Int} {fl : List Int} {fv : Value} (s : Sh3 N W0 wr hh o rl ns ov rv nv K bn c z fl fv) (e : Ex2 N wr rl ns rv nv K)
    (a : Below wr.heap.size wr w2) (g : w2.grownBy w3 fv.ownBlock) (u : Value) : Ex2 N (w3.setCell ⟨bn, 2, none⟩ u) rl ns rv nv K := by
  have G1 : Grew wr w3 (fun k => fv.ownBlock = some k) := (Grew.new a _).trans (Grew.grown g)
  refine (e.keep G1 (fun b q => (s.fap b q).2.2) (fun b q => (s.fap b q).2.1)).keep (Grew.set w3 bn 2 u) ?_ ?_
  · rintro b rfl
    exact s.bnk.1
  · rintro b rfl
    exact s.bnk.2.2.1
theorem Sh3.exDone {N : Nat} {W0 wr w2 w3 : World} {hh : Int} {o : List Nat} {rl : List Int} {ns : List Nd} {ov rv nv nv1 : Value} {K : Nat → Prop} {bn : Nat} {c z : Int} {fl : List Int} {fv : Value} (s : Sh3 N W0 wr hh o rl ns ov rv nv K bn c z fl fv) (e : Ex2 N wr rl ns rv nv K)
    (a : Below wr.heap.size wr w2) {xs : List Value} {fw : Nat → Value} (ht : Trip xs ns fw) (hx : wr.ownsRow (N + 5) 37 3 nv ns.length xs)
    (ho : w3.ownsRow (N + 5) 37 3 nv1 (ns.length + 1) (xs ++ [.int .i64 c, .int .i64 z, fv])) (g : w2.grownBy w3 nv.ownBlock) :
    Ex2 N (w3.setCell ⟨N + 4, 1, none⟩ nv1) rl (ns ++ [⟨c, z, fl⟩]) rv nv1 (fun b => K b ∨ fv.ownBlock = some b) := by
  have G1 : Grew wr w3 (fun k => nv.ownBlock = some k) := (Grew.new a _).trans (Grew.grown g)
  have G2 := Grew.set w3 (N + 4) 1 nv1
  obtain ⟨xs2, fv2, ho2, ht2, hf2, ha2⟩ := e.nd
  have ex : xs2 = xs := own_same ho2 hx
  subst ex
  have eF : ∀ i, i < ns.length → fw i = fv2 i := fun i hi => by
    have q1 := (ht.2 i hi).2.2
    have q2 := (ht2.2 i hi).2.2
    rw [q1] at q2
    exact Option.some.inj q2
  have no5 : ∀ (v : Value) (n : Nat) (ys : List Value), wr.ownsRow (N + 5) 2 1 v n ys → (∀ b, v.ownBlock = some b → nv.ownBlock ≠ some b) → (w3.setCell ⟨N + 4, 1, none⟩ nv1).ownsRow (N + 5) 2 1 v n ys := fun v n ys h k =>
    G2.own (G1.own h (fun b q s => k b q s)) (fun b q s => by have := (h.lt b q).1; omega)
  refine ⟨no5 _ _ _ e.rt (fun b q => (s.s.kk b (e.rk b q)).2.2.2), fun b q => .inl (e.rk b q), _, _, (show (w3.setCell ⟨N + 4, 1, none⟩ nv1).ownsRow (N + 5) _ 3 nv1 (ns ++ [(⟨c, z, fl⟩ : Nd)]).length _ from ?_), ht.snoc c z fl fv, fun i hi => ?_, fun i j hi hj hij b q => ?_⟩
  · have := G2.own ho (fun b q s => by have := (ho.lt b q).1; omega)
    simpa using this
  · have hi' : i < ns.length + 1 := by simpa using hi
    by_cases q : i = ns.length
    · subst q
      have e2 : (ns ++ [(⟨c, z, fl⟩ : Nd)]).getD ns.length nd0 = ⟨c, z, fl⟩ := by simp
      rw [if_pos rfl, e2]
      exact ⟨no5 _ _ _ s.fo (fun b k => (s.fap b k).2.1), fun b k => ⟨.inr k, fun r => (s.fap b k).2.2 (e.rk b r)⟩⟩
    · have hlt : i < ns.length := by omega
      have eg : (ns ++ [(⟨c, z, fl⟩ : Nd)]).getD i nd0 = ns.getD i nd0 := by simp [List.getD_eq_getElem?_getD, List.getElem?_append_left hlt]
      rw [if_neg q, eg, eF i hlt]
      obtain ⟨f1, f2⟩ := hf2 i hlt
      exact ⟨no5 _ _ _ f1 (fun b k => (s.s.kk b (f2 b k).1).2.2.2), fun b k => ⟨.inl (f2 b k).1, (f2 b k).2⟩⟩
  · have hi' : i < ns.length + 1 := by simpa using hi
    have hj' : j < ns.length + 1 := by simpa using hj
    by_cases q1 : i = ns.length
    · have q2 : j ≠ ns.length := fun r => hij (q1.trans r.symm)
      rw [if_pos q1] at q
      rw [if_neg q2, eF j (by omega)]
      exact fun r => (s.fap b q).2.2 ((hf2 j (by omega)).2 b r).1
    · rw [if_neg q1, eF i (by omega)] at q
      by_cases q2 : j = ns.length
      · rw [if_pos q2]
        exact fun r => (s.fap b r).2.2 ((hf2 i (by omega)).2 b q).1
      · rw [if_neg q2, eF j (by omega)]
        exact ha2 i j (by omega) (by omega) hij b q
theorem Ex2.gn {N B : Nat} {wr : World} {rl : List Int} {ns : List Nd} {rv nv : Value} {K : Nat → Prop} (e : Ex2 N wr rl ns rv nv K) (hB : B ≤ N + 5) (hh : Int) : GN B wr (.agg #[rv, nv, .int .i64 hh]) ⟨rl, ns, hh⟩ := by
  obtain ⟨xs, fv, ho, ht, hf, ha⟩ := e.nd
  exact ⟨rv, nv, fv, rfl, gown_mono e.rt hB, ⟨xs, gown_mono ho hB, ht, fun i hi => gown_mono (hf i hi).1 hB, ha⟩, fun i hi b q r => ((hf i hi).2 b r).2 q⟩

end Go.Proofs.YtboiknllmnfipaaDoor

/- A graph that owns its memory, and what it reads as behind one change. -/
namespace Go.Proofs.YtboiknllmnfipaaDoor
open Go.RowKit

/-- A row of nodes at a block, cell by cell. -/
structure NB (w : World) (nb : Nat) (ns : List Nd) (fv : Nat → Value) : Prop where
  row : ∃ N f, w.rowIs nb 37 N f ∧ ns.length * 3 ≤ N ∧ ∀ i, i < ns.length → f (i * 3) = .int .i64 (ns.getD i nd0).cls ∧ f (i * 3 + 1) = .int .i64 (ns.getD i nd0).hash ∧ f (i * 3 + 2) = fv i
  fl : ∀ i, i < ns.length → IR w (fv i) (ns.getD i nd0).fl
theorem IR.slice {w : World} {v : Value} {l : List Int} (h : IR w v l) : ∃ fa fc, v = .slice fa l.length fc := by
  obtain ⟨a, c, e, _⟩ := h
  exact ⟨a, c, e⟩
theorem NB.nr {w : World} {nb c : Nat} {ns : List Nd} {fv : Nat → Value} (h : NB w nb ns fv) (hc : ns.length ≤ c) : NR w (.slice (some ⟨nb, 0, none⟩) ns.length c) ns := by
  obtain ⟨N, f, R, hN, q⟩ := h.row
  refine ⟨_, c, rfl, hc, fun i hi => ?_⟩
  obtain ⟨fa, fc, e⟩ := (h.fl i hi).slice
  have q' := q i hi
  refine ⟨nb, 0, fa, _, fc, rfl, ?_, ?_, ?_, by rw [← e]; exact h.fl i hi⟩
  · rw [Nat.zero_add, R.cell (by omega), q'.1]
  · rw [Nat.zero_add, R.cell (by omega), q'.2.1]
  · rw [Nat.zero_add, R.cell (by omega), q'.2.2, e]
theorem NOwn.nb {B : Nat} {w : World} {nb nc : Nat} {ns : List Nd} {fv : Nat → Value} (h : NOwn B w (.slice (some ⟨nb, 0, none⟩) ns.length nc) ns fv) : NB w nb ns fv ∧ ns.length ≤ nc ∧ B ≤ nb ∧ (∀ i, i < ns.length → ∀ b, (fv i).ownBlock = some b → b ≠ nb) := by
  obtain ⟨xs, ho, ht, hf, ha⟩ := h
  have ho' := ho
  obtain ⟨hl, hx⟩ := ho
  rcases hx with ⟨e, _⟩ | ⟨g, cap, cur, e, hB, hh, h1, h2, h3, h4⟩
  · cases e
  · simp only [Value.slice.injEq, Option.some.injEq, Addr.mk.injEq, true_and, and_true] at e
    obtain ⟨rfl, rfl⟩ := e
    have get : ∀ j, j < ns.length * 3 → cur[j]?.getD undef = xs[j]?.getD undef := fun j hj => by
      rw [← h4, List.getElem?_take_of_lt hj, Array.getElem?_toList]
    refine ⟨⟨⟨cur.size, fun i => cur[i]?.getD undef, ⟨cur, hh, rfl, fun i hi => by simp [hi]⟩, by omega, fun i hi => ?_⟩, fun i hi => IR_of_owns (hf i hi)⟩, h1, hB, fun i hi b k q => ?_⟩
    · obtain ⟨t0, t1, t2⟩ := ht.2 i hi
      refine ⟨?_, ?_, ?_⟩
      · show cur[i * 3]?.getD undef = _
        rw [get _ (by omega), t0]; rfl
      · show cur[i * 3 + 1]?.getD undef = _
        rw [get _ (by omega), t1]; rfl
      · show cur[i * 3 + 2]?.getD undef = _
        rw [get _ (by omega), t2]; rfl
    · subst q
      exact type_ne (hf i hi) ho' (by decide) k rfl

end Go.Proofs.YtboiknllmnfipaaDoor

/- Heaps in the laws: szHeap, toHeap, eqHeap, markHeap, heldHeap. -/
namespace Go.Proofs.YtboiknllmnfipaaDoor
open Go.RowKit

theorem IRs {w : World} {v : Value} {l : List Int} (h : IR w v l) : ∃ ao cap, v = .slice ao l.length cap ∧ l.length ≤ cap := by
  obtain ⟨ao, cap, e, hc, _⟩ := h
  exact ⟨ao, cap, e, hc⟩


/-- A heap whose rows are all its own, apart, and may be written: made since B. -/
structure HN (B : Nat) (w : World) (v : Value) (h : Hp) : Prop where
  ex : ∃ v1 v2 v3, v = .agg #[v1, v2, .int .i64 h.old, .int .i64 h.eden, .int .i64 h.surv, .bool h.flip, .int .i64 h.hash, v3] ∧
    (Disk.OS w 2 1 v1 h.words.length ∧ Disk.OS w 2 1 v2 h.roots.length ∧ Disk.OS w 2 1 v3 h.kept.length) ∧ (IR w v1 h.words ∧ IR w v2 h.roots ∧ IR w v3 h.kept) ∧
    ((∀ b, Disk.rowOf v1 h.words.length = some b → B ≤ b) ∧ (∀ b, Disk.rowOf v2 h.roots.length = some b → B ≤ b) ∧ (∀ b, Disk.rowOf v3 h.kept.length = some b → B ≤ b)) ∧
    (∀ b, Disk.rowOf v1 h.words.length = some b → Disk.rowOf v2 h.roots.length ≠ some b) ∧ (∀ b, Disk.rowOf v1 h.words.length = some b → Disk.rowOf v3 h.kept.length ≠ some b) ∧ (∀ b, Disk.rowOf v2 h.roots.length = some b → Disk.rowOf v3 h.kept.length ≠ some b)
theorem HN.later {B : Nat} {w w' : World} {v : Value} {h : Hp} (k : HN B w v h) (hb : Below w.heap.size w w') : HN B w' v h := by
  obtain ⟨v1, v2, v3, e, ⟨a, b, c⟩, ⟨d, f, g⟩, r⟩ := k.ex
  exact ⟨v1, v2, v3, e, ⟨a.later hb, b.later hb, c.later hb⟩, ⟨d.later hb, f.later hb, g.later hb⟩, r⟩
theorem HN.hr {B : Nat} {w : World} {v : Value} {h : Hp} (k : HN B w v h) : HR w v h := by
  obtain ⟨v1, v2, v3, e, _, ⟨d, f, g⟩, _⟩ := k.ex
  exact ⟨v1, v2, v3, e, d, f, g⟩


end Go.Proofs.YtboiknllmnfipaaDoor

/- toHeap and eqHeap of the laws. -/
namespace Go.Proofs.YtboiknllmnfipaaDoor
open Go.RowKit

theorem Bx.below {w w' : World} {N : Nat} {v1 v2 v3 : Value} {h : Hp} (k : Bx w N v1 v2 v3 h) (hb : Below (N + 1) w w') : Bx w' N v1 v2 v3 h := by
  have e : ∀ o v, w.cell? ⟨N, o, none⟩ = some v → w'.cell? ⟨N, o, none⟩ = some v := fun o v q => (hb.cell (p := ⟨N, o, none⟩) (by show N < N + 1; omega)).trans q
  exact ⟨e _ _ k.c0, e _ _ k.c1, e _ _ k.c2, e _ _ k.c3, e _ _ k.c4, e _ _ k.c5, e _ _ k.c6, e _ _ k.c7⟩
theorem rowof {g n cap b : Nat} (h : Disk.rowOf (.slice (some ⟨g, 0, none⟩) n cap) n = some b) : b = g := by
  unfold Disk.rowOf at h
  split at h
  · cases h
  · simp [Value.ownBlock] at h; omega




end Go.Proofs.YtboiknllmnfipaaDoor
