/- Graphs as they are read, and held against each other by the laws. -/
import Derived.Test.YtabkiihlafhanaaDoorZHBase
namespace Go.Proofs.YtabkiihlafhanaaDoor
open Go.RowKit

structure Nd where
  cls : Int
  hash : Int
  fl : List Int
structure Gr where
  roots : List Int
  nodes : List Nd
  hash : Int
def nd0 : Nd := ⟨0, 0, []⟩
/-- The nodes that a slice reads as. -/
def NR (w : World) (v : Value) (ns : List Nd) : Prop :=
  ∃ ao cap, v = .slice ao ns.length cap ∧ ns.length ≤ cap ∧ ∀ i, i < ns.length → ∃ b o fa fn fc, ao = some ⟨b, o, none⟩ ∧ w.cell? ⟨b, o + i * 3, none⟩ = some (.int .i64 (ns.getD i nd0).cls) ∧
    w.cell? ⟨b, o + i * 3 + 1, none⟩ = some (.int .i64 (ns.getD i nd0).hash) ∧ w.cell? ⟨b, o + i * 3 + 2, none⟩ = some (.slice fa fn fc) ∧ IR w (.slice fa fn fc) (ns.getD i nd0).fl
/-- The graph that a value reads as. -/
def GR (w : World) (v : Value) (g : Gr) : Prop := ∃ vr vn, v = .agg #[vr, vn, .int .i64 g.hash] ∧ IR w vr g.roots ∧ NR w vn g.nodes
theorem NR.later {w w' : World} {v : Value} {ns : List Nd} (h : NR w v ns) (hb : Below w.heap.size w w') : NR w' v ns := by
  obtain ⟨ao, cap, rfl, hle, h⟩ := h
  refine ⟨ao, cap, rfl, hle, fun i hi => ?_⟩
  obtain ⟨b, o, fa, fn, fc, e, c0, c1, c2, r⟩ := h i hi
  exact ⟨b, o, fa, fn, fc, e, cell_later hb c0, cell_later hb c1, cell_later hb c2, r.later hb⟩
theorem GR.later {w w' : World} {v : Value} {g : Gr} (h : GR w v g) (hb : Below w.heap.size w w') : GR w' v g := by
  obtain ⟨vr, vn, e, a, b⟩ := h
  exact ⟨vr, vn, e, a.later hb, b.later hb⟩
theorem NR.shape {w : World} {v : Value} {ns : List Nd} (h : NR w v ns) : ∃ ao cap, v = .slice ao ns.length cap := by
  obtain ⟨ao, cap, e, _⟩ := h
  exact ⟨ao, cap, e⟩
theorem GR.out {w : World} {v : Value} {g : Gr} (h : GR w v g) : ∃ ra rc na nc, v = .agg #[.slice ra g.roots.length rc, .slice na g.nodes.length nc, .int .i64 g.hash] ∧ IR w (.slice ra g.roots.length rc) g.roots ∧ NR w (.slice na g.nodes.length nc) g.nodes := by
  obtain ⟨vr, vn, rfl, hr, hn⟩ := h
  obtain ⟨ra, rc, rfl, _⟩ := id hr
  obtain ⟨na, nc, rfl⟩ := NR.shape hn
  exact ⟨ra, rc, na, nc, rfl, hr, hn⟩
def grF (rv nv : Value) (hh : Int) (i : Nat) : Value := if i = 0 then rv else if i = 1 then nv else .int .i64 hh
theorem graphC (w : World) (rv nv : Value) (hh : Int) (t : TypeId) : (w.alloc (.cells #[rv, nv, .int .i64 hh] t)).rowIs w.heap.size t 3 (grF rv nv hh) :=
  World.rowIs_alloc w #[rv, nv, .int .i64 hh] t _ (fun i hi => by
    match i, hi with
    | 0, _ => rfl
    | 1, _ => rfl
    | 2, _ => rfl)
theorem gr_cells {w : World} {b t : Nat} {rv nv : Value} {hh : Int} (h : w.rowIs b t 3 (grF rv nv hh)) : w.cell? ⟨b, 0, none⟩ = some rv ∧ w.cell? ⟨b, 1, none⟩ = some nv ∧ w.cell? ⟨b, 2, none⟩ = some (.int .i64 hh) :=
  ⟨h.cell (i := 0) (by omega), h.cell (i := 1) (by omega), h.cell (i := 2) (by omega)⟩
theorem eqNode_any (c z : Int) (fl : List Int) (v u : Value) (w : World) (hv : IR w v fl) (hu : IR w u fl) (h1 : fl.length ≤ 10000000000000) :
    Calls Tryd.prog 22 #[.agg #[.int .i64 c, .int .i64 z, v], .agg #[.int .i64 c, .int .i64 z, u]] w fun e w' => e = .returned (.bool true) ∧ Below w.heap.size w w' := by
  obtain ⟨va, vc, rfl, _⟩ := id hv
  obtain ⟨ua, uc, rfl, _⟩ := id hu
  have hb0 : Below w.heap.size w ((w.alloc (.cells #[.int .i64 c, .int .i64 z, .slice va fl.length vc] 37)).alloc (.cells #[.int .i64 c, .int .i64 z, .slice ua fl.length uc] 37)) := bel_after (bel_one _ _) (bel_one _ _)
  have E := eqInt64S_any _ _ fl fl _ (hv.later hb0) (hu.later hb0) (by omega) (by omega)
  rw [decide_eq_true rfl] at E
  have t1 : (c != c) = false := by simp
  have t2 : (z != z) = false := by simp
  go_enter Tryd.func22, Tryd.ntmps22
  go_wp2_with fail
  refine E.mono ?_
  rintro e w1 ⟨rfl, hb1⟩
  go_wp2
  go_ret
  exact ⟨rfl, bel_after hb0 hb1⟩
theorem keep6 {W a b : World} {N M o p : Nat} {u0 u1 u2 x0 x1 x2 : Value} (k : Below a.heap.size a b) (h : Below W.heap.size W a ∧ (a.cell? ⟨N, o, none⟩ = some u0 ∧ a.cell? ⟨N, o + 1, none⟩ = some u1 ∧ a.cell? ⟨N, o + 2, none⟩ = some u2) ∧ (a.cell? ⟨M, p, none⟩ = some x0 ∧ a.cell? ⟨M, p + 1, none⟩ = some x1 ∧ a.cell? ⟨M, p + 2, none⟩ = some x2)) :
    Below W.heap.size W b ∧ (b.cell? ⟨N, o, none⟩ = some u0 ∧ b.cell? ⟨N, o + 1, none⟩ = some u1 ∧ b.cell? ⟨N, o + 2, none⟩ = some u2) ∧ (b.cell? ⟨M, p, none⟩ = some x0 ∧ b.cell? ⟨M, p + 1, none⟩ = some x1 ∧ b.cell? ⟨M, p + 2, none⟩ = some x2) :=
  ⟨bel_after h.1 k, ⟨cell_later k h.2.1.1, cell_later k h.2.1.2.1, cell_later k h.2.1.2.2⟩, cell_later k h.2.2.1, cell_later k h.2.2.2.1, cell_later k h.2.2.2.2⟩
set_option maxRecDepth 100000 in
set_option maxHeartbeats 1600000 in
theorem eqNodeS_any (v u : Value) (ns : List Nd) (w : World) (hv : NR w v ns) (hu : NR w u ns) (h1 : ns.length ≤ 10000000000000) (h2 : ∀ n, n ∈ ns → n.fl.length ≤ 10000000000000) :
    Calls Tryd.prog 18 #[v, u] w fun e w' => e = .returned (.bool true) ∧ Below w.heap.size w w' := by
  obtain ⟨va, vc, rfl, _, hvc⟩ := hv
  obtain ⟨ua, uc, rfl, _, huc⟩ := hu
  have t0 : ((ns.length : Int) != ns.length) = false := by simp
  go_enter Tryd.func18, Tryd.ntmps18
  go_wp2
  go_loopw [5] (fun iv wr => ∃ k : Nat, k ≤ ns.length ∧ iv = .int .i64 k ∧ Below w.heap.size w wr) (fun iv _ => ns.length - (intOf iv).toNat)
  case atStart => exact ⟨0, Nat.zero_le _, rfl, Below.refl _ _⟩
  case round =>
    obtain ⟨k, hk, rfl, hb⟩ := hrel
    by_cases hkl : k < ns.length
    · obtain ⟨vb, vo, fa, fn, fc, rfl, c0, c1, c2, cr⟩ := hvc k hkl
      obtain ⟨ub, uo, ga, gn, gc, rfl, d0, d1, d2, dr⟩ := huc k hkl
      have hm := h2 (ns.getD k nd0) (by simp [hkl])
      have hki : (k : Int) < ns.length := by omega
      have e0 := cell_later hb c0
      have e1 := cell_later hb c1
      have e2 := cell_later hb c2
      have g0 := cell_later hb d0
      have g1 := cell_later hb d1
      have g2 := cell_later hb d2
      have EQ := fun W (q : Below wr.heap.size wr W) => eqNode_any (ns.getD k nd0).cls (ns.getD k nd0).hash (ns.getD k nd0).fl (.slice fa fn fc) (.slice ga gn gc) W ((cr.later hb).later q) ((dr.later hb).later q) hm
      generalize (ns.getD k nd0).cls = x at *
      generalize (ns.getD k nd0).hash = y at *
      have lv := World.block_lt_of_cell? _ _ e0
      have lu := World.block_lt_of_cell? _ _ g0
      clear c0 c1 c2 d0 d1 d2 cr dr hvc huc h2 hm
      go_wp2_with fail
      go_region_held3 (fun w' => Below wr.heap.size wr w' ∧ (w'.cell? ⟨vb, vo + k * 3, none⟩ = some (.int .i64 x) ∧ w'.cell? ⟨vb, vo + k * 3 + 1, none⟩ = some (.int .i64 y) ∧ w'.cell? ⟨vb, vo + k * 3 + 2, none⟩ = some (.slice fa fn fc)) ∧ (w'.cell? ⟨ub, uo + k * 3, none⟩ = some (.int .i64 x) ∧ w'.cell? ⟨ub, uo + k * 3 + 1, none⟩ = some (.int .i64 y) ∧ w'.cell? ⟨ub, uo + k * 3 + 2, none⟩ = some (.slice ga gn gc)))
        (first | assumption | exact ⟨(Below.refl _ _).drew, ⟨e0, e1, e2⟩, g0, g1, g2⟩ | exact keep6 (by assumption) (by assumption))
        (first
          | (go_at_call 22; refine (EQ _ (And.left (by assumption))).mono ?_; rintro e w2 ⟨rfl, hb2⟩))
      all_goals go_wp2
      all_goals exact ⟨⟨k + 1, by omega, by go_num, bel_after hb (bel_after (Below.refl _ _).drew hb2)⟩, by simp [intOf]; omega⟩
    · obtain rfl : k = ns.length := by omega
      go_wp2
      go_ret
      exact ⟨rfl, hb⟩
theorem eqGraph_any (v u : Value) (g : Gr) (w : World) (hv : GR w v g) (hu : GR w u g) (h0 : g.roots.length ≤ 10000000000000) (h1 : g.nodes.length ≤ 10000000000000) (h2 : ∀ n, n ∈ g.nodes → n.fl.length ≤ 10000000000000) :
    Calls Tryd.prog 8 #[v, u] w fun e w' => e = .returned (.bool true) ∧ Below w.heap.size w w' := by
  obtain ⟨ra, rc, na, nc, rfl, hr, hn⟩ := hv.out
  obtain ⟨sa, sc, ma, mc, rfl, hs, hm⟩ := hu.out
  have hb0 : Below w.heap.size w ((w.alloc (.cells #[.slice ra g.roots.length rc, .slice na g.nodes.length nc, .int .i64 g.hash] 30)).alloc (.cells #[.slice sa g.roots.length sc, .slice ma g.nodes.length mc, .int .i64 g.hash] 30)) := bel_after (bel_one _ _) (bel_one _ _)
  have R0 := (graphC w (.slice ra g.roots.length rc) (.slice na g.nodes.length nc) g.hash 30).of_block ((bel_one _ (.cells #[.slice sa g.roots.length sc, .slice ma g.nodes.length mc, .int .i64 g.hash] 30)).block _ (by simp))
  have R1 := graphC (w.alloc (.cells #[.slice ra g.roots.length rc, .slice na g.nodes.length nc, .int .i64 g.hash] 30)) (.slice sa g.roots.length sc) (.slice ma g.nodes.length mc) g.hash 30
  rw [World.size_alloc] at R1
  have E1 := eqInt64S_any _ _ g.roots g.roots _ (hr.later hb0) (hs.later hb0) (by omega) (by omega)
  rw [decide_eq_true rfl] at E1
  have E2 := fun W (q : Below w.heap.size w W) => eqNodeS_any _ _ g.nodes W (hn.later q) (hm.later q) h1 h2
  have t : (g.hash != g.hash) = false := by simp
  clear hr hs hn hm
  go_enter Tryd.func8, Tryd.ntmps8
  go_wp2_with fail
  refine E1.mono ?_
  rintro e w1 ⟨rfl, hb1⟩
  have hbw1 := bel_after hb0 hb1
  have Q0 := R0.of_block (hb1.block _ R0.lt)
  have Q1 := R1.of_block (hb1.block _ R1.lt)
  have a1 : w1.cell? ⟨w.heap.size, 1, none⟩ = some (.slice na g.nodes.length nc) := Q0.cell (i := 1) (by omega)
  have b1 : w1.cell? ⟨w.heap.size + 1, 1, none⟩ = some (.slice ma g.nodes.length mc) := Q1.cell (i := 1) (by omega)
  go_wp2_with fail
  refine (E2 w1 hbw1).mono ?_
  rintro e w2 ⟨rfl, hb2⟩
  have P0 := Q0.of_block (hb2.block _ Q0.lt)
  have P1 := Q1.of_block (hb2.block _ Q1.lt)
  have a2 : w2.cell? ⟨w.heap.size, 2, none⟩ = some (.int .i64 g.hash) := P0.cell (i := 2) (by omega)
  have b2 : w2.cell? ⟨w.heap.size + 1, 2, none⟩ = some (.int .i64 g.hash) := P1.cell (i := 2) (by omega)
  go_wp2
  go_ret
  exact ⟨rfl, bel_after hbw1 hb2⟩

/-! Marks -/

end Go.Proofs.YtabkiihlafhanaaDoor
