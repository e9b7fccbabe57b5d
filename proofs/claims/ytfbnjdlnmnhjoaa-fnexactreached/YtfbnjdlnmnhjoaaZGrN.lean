/- Graphs as they are read, and held against each other by the laws. -/
import Derived.Test.YtfbnjdlnmnhjoaaZHBase
namespace Go.Proofs.Ytfbnjdlnmnhjoaa
open Go.RowKit

structure Nd where
  cls : Int
  hash : Int
  fl : List Int
structure Gr where
  roots : List Int
  nodes : List Nd
  hash : Int
def nd0 : Nd := ⟨0, 0, []⟩
/-- The nodes that a slice reads as. -/
def NR (w : World) (v : Value) (ns : List Nd) : Prop :=
  ∃ ao cap, v = .slice ao ns.length cap ∧ ns.length ≤ cap ∧ ∀ i, i < ns.length → ∃ b o fa fn fc, ao = some ⟨b, o, none⟩ ∧ w.cell? ⟨b, o + i * 3, none⟩ = some (.int .i64 (ns.getD i nd0).cls) ∧
    w.cell? ⟨b, o + i * 3 + 1, none⟩ = some (.int .i64 (ns.getD i nd0).hash) ∧ w.cell? ⟨b, o + i * 3 + 2, none⟩ = some (.slice fa fn fc) ∧ IR w (.slice fa fn fc) (ns.getD i nd0).fl
/-- The graph that a value reads as. -/
def GR (w : World) (v : Value) (g : Gr) : Prop := ∃ vr vn, v = .agg #[vr, vn, .int .i64 g.hash] ∧ IR w vr g.roots ∧ NR w vn g.nodes
theorem NR.later {w w' : World} {v : Value} {ns : List Nd} (h : NR w v ns) (hb : Below w.heap.size w w') : NR w' v ns := by
  obtain ⟨ao, cap, rfl, hle, h⟩ := h
  refine ⟨ao, cap, rfl, hle, fun i hi => ?_⟩
  obtain ⟨b, o, fa, fn, fc, e, c0, c1, c2, r⟩ := h i hi
  exact ⟨b, o, fa, fn, fc, e, cell_later hb c0, cell_later hb c1, cell_later hb c2, r.later hb⟩
theorem GR.later {w w' : World} {v : Value} {g : Gr} (h : GR w v g) (hb : Below w.heap.size w w') : GR w' v g := by
  obtain ⟨vr, vn, e, a, b⟩ := h
  exact ⟨vr, vn, e, a.later hb, b.later hb⟩
theorem NR.shape {w : World} {v : Value} {ns : List Nd} (h : NR w v ns) : ∃ ao cap, v = .slice ao ns.length cap := by
  obtain ⟨ao, cap, e, _⟩ := h
  exact ⟨ao, cap, e⟩
theorem GR.out {w : World} {v : Value} {g : Gr} (h : GR w v g) : ∃ ra rc na nc, v = .agg #[.slice ra g.roots.length rc, .slice na g.nodes.length nc, .int .i64 g.hash] ∧ IR w (.slice ra g.roots.length rc) g.roots ∧ NR w (.slice na g.nodes.length nc) g.nodes := by
  obtain ⟨vr, vn, rfl, hr, hn⟩ := h
  obtain ⟨ra, rc, rfl, _⟩ := id hr
  obtain ⟨na, nc, rfl⟩ := NR.shape hn
  exact ⟨ra, rc, na, nc, rfl, hr, hn⟩
def grF (rv nv : Value) (hh : Int) (i : Nat) : Value := if i = 0 then rv else if i = 1 then nv else .int .i64 hh
theorem graphC (w : World) (rv nv : Value) (hh : Int) (t : TypeId) : (w.alloc (.cells #[rv, nv, .int .i64 hh] t)).rowIs w.heap.size t 3 (grF rv nv hh) :=
  World.rowIs_alloc w #[rv, nv, .int .i64 hh] t _ (fun i hi => by
    match i, hi with
    | 0, _ => rfl
    | 1, _ => rfl
    | 2, _ => rfl)
theorem gr_cells {w : World} {b t : Nat} {rv nv : Value} {hh : Int} (h : w.rowIs b t 3 (grF rv nv hh)) : w.cell? ⟨b, 0, none⟩ = some rv ∧ w.cell? ⟨b, 1, none⟩ = some nv ∧ w.cell? ⟨b, 2, none⟩ = some (.int .i64 hh) :=
  ⟨h.cell (i := 0) (by omega), h.cell (i := 1) (by omega), h.cell (i := 2) (by omega)⟩

theorem keep6 {W a b : World} {N M o p : Nat} {u0 u1 u2 x0 x1 x2 : Value} (k : Below a.heap.size a b) (h : Below W.heap.size W a ∧ (a.cell? ⟨N, o, none⟩ = some u0 ∧ a.cell? ⟨N, o + 1, none⟩ = some u1 ∧ a.cell? ⟨N, o + 2, none⟩ = some u2) ∧ (a.cell? ⟨M, p, none⟩ = some x0 ∧ a.cell? ⟨M, p + 1, none⟩ = some x1 ∧ a.cell? ⟨M, p + 2, none⟩ = some x2)) :
    Below W.heap.size W b ∧ (b.cell? ⟨N, o, none⟩ = some u0 ∧ b.cell? ⟨N, o + 1, none⟩ = some u1 ∧ b.cell? ⟨N, o + 2, none⟩ = some u2) ∧ (b.cell? ⟨M, p, none⟩ = some x0 ∧ b.cell? ⟨M, p + 1, none⟩ = some x1 ∧ b.cell? ⟨M, p + 2, none⟩ = some x2) :=
  ⟨bel_after h.1 k, ⟨cell_later k h.2.1.1, cell_later k h.2.1.2.1, cell_later k h.2.1.2.2⟩, cell_later k h.2.2.1, cell_later k h.2.2.2.1, cell_later k h.2.2.2.2⟩


end Go.Proofs.Ytfbnjdlnmnhjoaa
