/- Graphs that own their memory. -/
import Derived.Test.YtnppoeifhmkphaaGreatDoorZGrK
namespace Go.Proofs.YtnppoeifhmkphaaGreatDoor
open Go.RowKit

/-- Nodes that own their memory, since B; no two lie in one row. -/
def NOwn (B : Nat) (w : World) (nv : Value) (ns : List Nd) (fv : Nat → Value) : Prop :=
  ∃ xs, w.ownsRow B 45 3 nv ns.length xs ∧ Trip xs ns fv ∧ (∀ i, i < ns.length → w.ownsRow B 2 1 (fv i) (ns.getD i nd0).fl.length (icells (ns.getD i nd0).fl)) ∧
    ∀ i j, i < ns.length → j < ns.length → i ≠ j → ∀ b, (fv i).ownBlock = some b → (fv j).ownBlock ≠ some b
/-- A graph that owns its memory. -/
def GN (B : Nat) (w : World) (v : Value) (g : Gr) : Prop :=
  ∃ vr vn fv, v = .agg #[vr, vn, .int .i64 g.hash] ∧ w.ownsRow B 2 1 vr g.roots.length (icells g.roots) ∧ NOwn B w vn g.nodes fv ∧ ∀ i, i < g.nodes.length → ∀ b, vr.ownBlock = some b → (fv i).ownBlock ≠ some b
theorem type_ne {w : World} {B B' e e' s s' n n' b : Nat} {v v' : Value} {xs xs' : List Value} (h : w.ownsRow B e s v n xs) (h' : w.ownsRow B' e' s' v' n' xs') (ne : e ≠ e') (hb : v.ownBlock = some b) : v'.ownBlock ≠ some b := by
  intro hb'
  rcases h.2 with ⟨rfl, _⟩ | ⟨g, cap, cur, rfl, _, hh, _⟩
  · simp [Value.ownBlock] at hb
  · rcases h'.2 with ⟨rfl, _⟩ | ⟨g', cap', cur', rfl, _, hh', _⟩
    · simp [Value.ownBlock] at hb'
    · simp [Value.ownBlock] at hb hb'
      subst hb hb'
      rw [hh] at hh'
      simp at hh'
      exact ne hh'.2
theorem NOwn.nk {B : Nat} {w : World} {nv : Value} {ns : List Nd} {fv : Nat → Value} (h : NOwn B w nv ns fv) : NK B w nv ns (fun b => B ≤ b ∧ b < w.heap.size) := by
  obtain ⟨xs, ho, ht, hf, _⟩ := h
  exact ⟨xs, fv, ho, ht, fun i hi => ⟨IR_of_owns (hf i hi), fun b k => (hf i hi).lt b (inB_own (hf i hi) k)⟩⟩
theorem GN.grn {B : Nat} {w : World} {v : Value} {g : Gr} (h : GN B w v g) : GRn B w v g := by
  obtain ⟨vr, vn, fv, e, hr, hn, _⟩ := h
  exact ⟨vr, vn, _, e, ⟨IR_of_owns hr, fun b k => hr.lt b (inB_own hr k)⟩, hn.nk, fun b k => k.1⟩
theorem Grew.nown {B : Nat} {w w' : World} {nv : Value} {ns : List Nd} {fv : Nat → Value} {S : Nat → Prop} (q : Grew w w' S) (h : NOwn B w nv ns fv) (hS : ∀ b, S b → b < B) : NOwn B w' nv ns fv := by
  obtain ⟨xs, ho, ht, hf, ha⟩ := h
  exact ⟨xs, q.own ho (fun b e s => by have := (ho.lt b e).1; have := hS b s; omega), ht, fun i hi => q.own (hf i hi) (fun b e s => by have := ((hf i hi).lt b e).1; have := hS b s; omega), ha⟩
theorem Grew.gn {B : Nat} {w w' : World} {v : Value} {g : Gr} {S : Nat → Prop} (q : Grew w w' S) (h : GN B w v g) (hS : ∀ b, S b → b < B) : GN B w' v g := by
  obtain ⟨vr, vn, fv, e, hr, hn, ha⟩ := h
  exact ⟨vr, vn, fv, e, q.own hr (fun b e s => by have := (hr.lt b e).1; have := hS b s; omega), q.nown hn hS, ha⟩
theorem GN.later {B : Nat} {w w' : World} {v : Value} {g : Gr} (h : GN B w v g) (hb : Below w.heap.size w w') : GN B w' v g := (Grew.new hb (fun _ => False)).gn h (fun _ q => q.elim)
theorem GN.base {B B' : Nat} {w : World} {v : Value} {g : Gr} (h : GN B w v g) (hB : B' ≤ B) : GN B' w v g := by
  obtain ⟨vr, vn, fv, e, hr, ⟨xs, ho, ht, hf, ha⟩, h2⟩ := h
  exact ⟨vr, vn, fv, e, gown_mono hr hB, ⟨xs, gown_mono ho hB, ht, fun i hi => gown_mono (hf i hi) hB, ha⟩, h2⟩
/-- One node more, whose fields were made since. -/
theorem NOwn.snoc {B : Nat} {w w1 w2 w3 : World} {nv nv1 f : Value} {ns : List Nd} {fv : Nat → Value} {c z : Int} {fl : List Int} (h : NOwn B w nv ns fv) (b1 : Below w.heap.size w w1) (hf : w1.ownsRow w.heap.size 2 1 f fl.length (icells fl)) (hB : B ≤ w.heap.size)
    (b2 : Below w1.heap.size w1 w2) {xs : List Value} (ht : Trip xs ns fv) (ho : w3.ownsRow B 45 3 nv1 (ns.length + 1) (xs ++ [.int .i64 c, .int .i64 z, f])) (g : w2.grownBy w3 nv.ownBlock) :
    NOwn B w3 nv1 (ns ++ [⟨c, z, fl⟩]) (fun i => if i = ns.length then f else fv i) := by
  obtain ⟨xs0, ho0, _, hf0, ha0⟩ := h
  have o1 : w1.ownsRow B _ 3 nv ns.length xs0 := own_later ho0 b1
  have G : Grew w1 w3 (fun k => nv.ownBlock = some k) := (Grew.new b2 _).trans (Grew.grown g)
  have oF : w3.ownsRow B 2 1 f fl.length (icells fl) := gown_mono (G.own hf (fun b e q => type_ne hf o1 (by decide) e q)) hB
  have oI : ∀ i, i < ns.length → w3.ownsRow B 2 1 (fv i) (ns.getD i nd0).fl.length (icells (ns.getD i nd0).fl) := fun i hi => G.own (own_later (hf0 i hi) b1) (fun b e q => type_ne (hf0 i hi) ho0 (by decide) e q)
  have eg : ∀ i, i < ns.length → (ns ++ [(⟨c, z, fl⟩ : Nd)]).getD i nd0 = ns.getD i nd0 := fun i hi => by simp [List.getD_eq_getElem?_getD, List.getElem?_append_left hi]
  have en : (ns ++ [(⟨c, z, fl⟩ : Nd)]).getD ns.length nd0 = ⟨c, z, fl⟩ := by simp
  have hl : (ns ++ [(⟨c, z, fl⟩ : Nd)]).length = ns.length + 1 := by simp
  refine ⟨_, by rw [hl]; exact ho, ht.snoc c z fl f, fun i hi => ?_, fun i j hi hj ne b e => ?_⟩
  · rw [hl] at hi
    dsimp only
    by_cases e : i = ns.length
    · subst e
      rw [if_pos rfl, en]
      exact oF
    · rw [if_neg e, eg i (by omega)]
      exact oI i (by omega)
  · rw [hl] at hi hj
    dsimp only at e ⊢
    by_cases e1 : i = ns.length
    · rw [if_pos e1] at e
      rw [if_neg (by omega)]
      intro q
      have h1 := (hf.lt b e).1
      have h2 := ((hf0 j (by omega)).lt b q).2
      omega
    · rw [if_neg e1] at e
      by_cases e2 : j = ns.length
      · rw [if_pos e2]
        intro q
        have h1 := (hf.lt b q).1
        have h2 := ((hf0 i (by omega)).lt b e).2
        omega
      · rw [if_neg e2]
        exact ha0 i j (by omega) (by omega) ne b e
theorem GN.out {B : Nat} {w : World} {v : Value} {g : Gr} (h : GN B w v g) : ∃ ra rc na nc fv, v = .agg #[.slice ra g.roots.length rc, .slice na g.nodes.length nc, .int .i64 g.hash] ∧ w.ownsRow B 2 1 (.slice ra g.roots.length rc) g.roots.length (icells g.roots) ∧ NOwn B w (.slice na g.nodes.length nc) g.nodes fv ∧ ∀ i, i < g.nodes.length → ∀ b, Value.ownBlock (.slice ra g.roots.length rc) = some b → (fv i).ownBlock ≠ some b := by
  obtain ⟨vr, vn, fv, rfl, hr, hn, ha⟩ := h
  obtain ⟨ra, rc, rfl⟩ := own_shape hr
  obtain ⟨na, nc, rfl⟩ : ∃ na nc, vn = .slice na g.nodes.length nc := by
    obtain ⟨xs, no, _⟩ := hn
    exact own_shape no
  exact ⟨ra, rc, na, nc, fv, rfl, hr, hn, ha⟩

end Go.Proofs.YtnppoeifhmkphaaGreatDoor
