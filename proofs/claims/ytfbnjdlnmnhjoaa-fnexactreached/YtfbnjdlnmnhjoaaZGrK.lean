/- Rows of nodes, and graphs that were made since. -/
import Derived.Test.YtfbnjdlnmnhjoaaZGrN
import Derived.Test.YtfbnjdlnmnhjoaaZGGrew
namespace Go.Proofs.Ytfbnjdlnmnhjoaa
open Go.RowKit

/-- The cells of a row of nodes. -/
def Trip (xs : List Value) (ns : List Nd) (fv : Nat → Value) : Prop :=
  xs.length = ns.length * 3 ∧ ∀ i, i < ns.length → xs[i * 3]? = some (.int .i64 (ns.getD i nd0).cls) ∧ xs[i * 3 + 1]? = some (.int .i64 (ns.getD i nd0).hash) ∧ xs[i * 3 + 2]? = some (fv i)
theorem Trip.nil (fv : Nat → Value) : Trip [] [] fv := ⟨rfl, fun i hi => by simp at hi⟩
theorem Trip.snoc {xs : List Value} {ns : List Nd} {fv : Nat → Value} (h : Trip xs ns fv) (c z : Int) (fl : List Int) (f : Value) :
    Trip (xs ++ [.int .i64 c, .int .i64 z, f]) (ns ++ [⟨c, z, fl⟩]) (fun i => if i = ns.length then f else fv i) := by
  obtain ⟨hl, h⟩ := h
  refine ⟨by simp [hl]; omega, fun i hi => ?_⟩
  have hi' : i < ns.length + 1 := by simpa using hi
  by_cases e : i = ns.length
  · subst e
    rw [← hl, List.getElem?_append_right (by omega), List.getElem?_append_right (by omega), List.getElem?_append_right (by omega)]
    simp
  · have hlt : i < ns.length := by omega
    obtain ⟨h0, h1, h2⟩ := h i hlt
    rw [List.getElem?_append_left (by omega), List.getElem?_append_left (by omega), List.getElem?_append_left (by omega)]
    have ef : (fun i => if i = ns.length then f else fv i) i = fv i := if_neg e
    rw [ef]
    have eg : (ns ++ [(⟨c, z, fl⟩ : Nd)]).getD i nd0 = ns.getD i nd0 := by simp [List.getD_eq_getElem?_getD, List.getElem?_append_left hlt]
    rw [eg]
    exact ⟨h0, h1, h2⟩
theorem own_cell3 {w : World} {B e : Nat} {v : Value} {n : Nat} {xs : List Value} (h : w.ownsRow B e 3 v n xs) : ∃ ao cap, v = .slice ao n cap ∧ n ≤ cap ∧ ∀ j, j < n * 3 → ∃ b, ao = some ⟨b, 0, none⟩ ∧ w.cell? ⟨b, j, none⟩ = xs[j]? := by
  obtain ⟨hl, h⟩ := h
  rcases h with ⟨rfl, rfl⟩ | ⟨g, cap, cur, rfl, hB, hh, h1, h2, h3, h4⟩
  · exact ⟨none, 0, rfl, Nat.le_refl _, fun i hi => by omega⟩
  · refine ⟨_, cap, rfl, h1, fun i hi => ⟨g, rfl, ?_⟩⟩
    rw [← h4, List.getElem?_take_of_lt (by omega)]
    simp [World.cell?, hh]
/-- Nodes of which the row is owned and the fields read, in blocks of K. -/
def NK (B : Nat) (w : World) (nv : Value) (ns : List Nd) (K : Nat → Prop) : Prop :=
  ∃ xs fv, w.ownsRow B 46 3 nv ns.length xs ∧ Trip xs ns fv ∧ ∀ i, i < ns.length → IR w (fv i) (ns.getD i nd0).fl ∧ ∀ b, inB (fv i) b → K b
theorem NK.nr {B : Nat} {w : World} {nv : Value} {ns : List Nd} {K : Nat → Prop} (h : NK B w nv ns K) : NR w nv ns := by
  obtain ⟨xs, fv, ho, ht, hf⟩ := h
  obtain ⟨ao, cap, rfl, hle, hc⟩ := own_cell3 ho
  refine ⟨ao, cap, rfl, hle, fun i hi => ?_⟩
  obtain ⟨b, rfl, c0⟩ := hc (i * 3) (by omega)
  obtain ⟨_, e1, c1⟩ := hc (i * 3 + 1) (by omega)
  obtain ⟨_, e2, c2⟩ := hc (i * 3 + 2) (by omega)
  cases e1
  cases e2
  obtain ⟨t0, t1, t2⟩ := ht.2 i hi
  obtain ⟨fa, fc, hfv, _⟩ := id (hf i hi).1
  refine ⟨b, 0, fa, (ns.getD i nd0).fl.length, fc, rfl, ?_, ?_, ?_, ?_⟩
  · rw [Nat.zero_add, c0, t0]
  · rw [Nat.zero_add, c1, t1]
  · rw [Nat.zero_add, c2, t2, hfv]
  · rw [← hfv]
    exact (hf i hi).1
theorem Grew.nk {w w' : World} {S K : Nat → Prop} {B : Nat} {nv : Value} {ns : List Nd} (h : Grew w w' S) (k : NK B w nv ns K) (h1 : ∀ b, nv.ownBlock = some b → ¬ S b) (h2 : ∀ b, K b → ¬ S b) : NK B w' nv ns K := by
  obtain ⟨xs, fv, ho, ht, hf⟩ := k
  exact ⟨xs, fv, h.own ho h1, ht, fun i hi => ⟨h.ir (hf i hi).1 (fun b q => h2 b ((hf i hi).2 b q)), (hf i hi).2⟩⟩
theorem NK.mono {w : World} {K K' : Nat → Prop} {B : Nat} {nv : Value} {ns : List Nd} (k : NK B w nv ns K) (h : ∀ b, K b → K' b) : NK B w nv ns K' := by
  obtain ⟨xs, fv, ho, ht, hf⟩ := k
  exact ⟨xs, fv, ho, ht, fun i hi => ⟨(hf i hi).1, fun b q => h b ((hf i hi).2 b q)⟩⟩
theorem NK.base {w : World} {K : Nat → Prop} {B B' : Nat} {nv : Value} {ns : List Nd} (k : NK B w nv ns K) (h : B' ≤ B) : NK B' w nv ns K := by
  obtain ⟨xs, fv, ho, ht, hf⟩ := k
  exact ⟨xs, fv, gown_mono ho h, ht, hf⟩
theorem NK.own {w : World} {K : Nat → Prop} {B : Nat} {nv : Value} {ns : List Nd} (k : NK B w nv ns K) : ∀ b, nv.ownBlock = some b → B ≤ b ∧ b < w.heap.size := by
  obtain ⟨xs, fv, ho, ht, hf⟩ := k
  exact ho.lt
/-- A graph that was made since B. -/
def GRn (B : Nat) (w : World) (v : Value) (g : Gr) : Prop := ∃ vr vn K, v = .agg #[vr, vn, .int .i64 g.hash] ∧ (IR w vr g.roots ∧ ∀ b, inB vr b → K b) ∧ NK B w vn g.nodes K ∧ ∀ b, K b → B ≤ b
theorem GRn.gr {B : Nat} {w : World} {v : Value} {g : Gr} (h : GRn B w v g) : GR w v g := by
  obtain ⟨vr, vn, K, e, hr, hn, _⟩ := h
  exact ⟨vr, vn, e, hr.1, hn.nr⟩
theorem Grew.grn {B : Nat} {w w' : World} {v : Value} {g : Gr} {S : Nat → Prop} (q : Grew w w' S) (h : GRn B w v g) (hS : ∀ b, S b → b < B) : GRn B w' v g := by
  obtain ⟨vr, vn, K, e, hr, hn, hK⟩ := h
  exact ⟨vr, vn, K, e, ⟨q.ir hr.1 (fun b k s => by have := hK b (hr.2 b k); have := hS b s; omega), hr.2⟩, q.nk hn (fun b k s => by have := (hn.own b k).1; have := hS b s; omega) (fun b k s => by have := hK b k; have := hS b s; omega), hK⟩
theorem GRn.later {B : Nat} {w w' : World} {v : Value} {g : Gr} (h : GRn B w v g) (hb : Below w.heap.size w w') : GRn B w' v g := (Grew.new hb (fun _ => False)).grn h (fun _ q => q.elim)
theorem GRn.base {B B' : Nat} {w : World} {v : Value} {g : Gr} (h : GRn B w v g) (hB : B' ≤ B) : GRn B' w v g := by
  obtain ⟨vr, vn, K, e, hr, hn, hK⟩ := h
  exact ⟨vr, vn, K, e, hr, hn.base hB, fun b k => by have := hK b k; omega⟩

end Go.Proofs.Ytfbnjdlnmnhjoaa
