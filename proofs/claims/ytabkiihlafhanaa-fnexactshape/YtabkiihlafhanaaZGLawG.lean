/- Graphs in the laws: eqGraph, markGraph, heldGraph; graphs that own their memory. -/
import Derived.Test.YtabkiihlafhanaaZGShC
import Derived.Test.YtabkiihlafhanaaZHLaws
namespace Go.Proofs.Ytabkiihlafhanaa
open Go.RowKit

theorem eqNode_any (c z : Int) (fl : List Int) (v u : Value) (w : World) (hv : IR w v fl) (hu : IR w u fl) (h1 : fl.length ≤ 10000000000000) :
    Calls Try.prog 43 #[.agg #[.int .i64 c, .int .i64 z, v], .agg #[.int .i64 c, .int .i64 z, u]] w fun e w' => e = .returned (.bool true) ∧ Below w.heap.size w w' := by
  obtain ⟨va, vc, rfl⟩ := IR.shape hv
  obtain ⟨ua, uc, rfl⟩ := IR.shape hu
  have hb0 : Below w.heap.size w ((w.alloc (.cells #[.int .i64 c, .int .i64 z, .slice va fl.length vc] 51)).alloc (.cells #[.int .i64 c, .int .i64 z, .slice ua fl.length uc] 51)) := bel_after (bel_one _ _) (bel_one _ _)
  have E := eqInt64S_any _ _ fl fl _ (hv.later hb0) (hu.later hb0) (by omega) (by omega)
  rw [decide_eq_true rfl] at E
  have t1 : (c != c) = false := by simp
  have t2 : (z != z) = false := by simp
  go_enter Try.func43, Try.ntmps43
  go_wp2_with fail
  refine E.mono ?_
  rintro e w1 ⟨rfl, hb1⟩
  go_wp2
  go_ret
  exact ⟨rfl, bel_after hb0 hb1⟩

theorem keep6 {W a b : World} {N M o p : Nat} {u0 u1 u2 x0 x1 x2 : Value} (k : Below a.heap.size a b) (h : Below W.heap.size W a ∧ (a.cell? ⟨N, o, none⟩ = some u0 ∧ a.cell? ⟨N, o + 1, none⟩ = some u1 ∧ a.cell? ⟨N, o + 2, none⟩ = some u2) ∧ (a.cell? ⟨M, p, none⟩ = some x0 ∧ a.cell? ⟨M, p + 1, none⟩ = some x1 ∧ a.cell? ⟨M, p + 2, none⟩ = some x2)) :
    Below W.heap.size W b ∧ (b.cell? ⟨N, o, none⟩ = some u0 ∧ b.cell? ⟨N, o + 1, none⟩ = some u1 ∧ b.cell? ⟨N, o + 2, none⟩ = some u2) ∧ (b.cell? ⟨M, p, none⟩ = some x0 ∧ b.cell? ⟨M, p + 1, none⟩ = some x1 ∧ b.cell? ⟨M, p + 2, none⟩ = some x2) :=
  ⟨bel_after h.1 k, ⟨cell_later k h.2.1.1, cell_later k h.2.1.2.1, cell_later k h.2.1.2.2⟩, cell_later k h.2.2.1, cell_later k h.2.2.2.1, cell_later k h.2.2.2.2⟩

set_option maxRecDepth 100000 in
set_option maxHeartbeats 1600000 in
theorem eqNodeS_any (v u : Value) (ns : List Nd) (w : World) (hv : NR w v ns) (hu : NR w u ns) (h1 : ns.length ≤ 10000000000000) (h2 : ∀ n, n ∈ ns → n.fl.length ≤ 10000000000000) :
    Calls Try.prog 26 #[v, u] w fun e w' => e = .returned (.bool true) ∧ Below w.heap.size w w' := by
  obtain ⟨va, vc, rfl, _, hvc⟩ := hv
  obtain ⟨ua, uc, rfl, _, huc⟩ := hu
  have t0 : ((ns.length : Int) != ns.length) = false := by simp
  go_enter Try.func26, Try.ntmps26
  go_wp2
  go_loopw [5] (fun iv wr => ∃ k : Nat, k ≤ ns.length ∧ iv = .int .i64 k ∧ Below w.heap.size w wr) (fun iv _ => ns.length - (intOf iv).toNat)
  case atStart => exact ⟨0, Nat.zero_le _, rfl, Below.refl _ _⟩
  case round =>
    obtain ⟨k, hk, rfl, hb⟩ := hrel
    by_cases hkl : k < ns.length
    · obtain ⟨vb, vo, fa, fn, fc, rfl, c0, c1, c2, cr⟩ := hvc k hkl
      obtain ⟨ub, uo, ga, gn, gc, rfl, d0, d1, d2, dr⟩ := huc k hkl
      have hm := h2 (ns.getD k nd0) (by simp [hkl])
      have hki : (k : Int) < ns.length := by omega
      have e0 := cell_later hb c0
      have e1 := cell_later hb c1
      have e2 := cell_later hb c2
      have g0 := cell_later hb d0
      have g1 := cell_later hb d1
      have g2 := cell_later hb d2
      have EQ := fun W (q : Below wr.heap.size wr W) => eqNode_any (ns.getD k nd0).cls (ns.getD k nd0).hash (ns.getD k nd0).fl (.slice fa fn fc) (.slice ga gn gc) W ((cr.later hb).later q) ((dr.later hb).later q) hm
      generalize (ns.getD k nd0).cls = x at *
      generalize (ns.getD k nd0).hash = y at *
      have lv := World.block_lt_of_cell? _ _ e0
      have lu := World.block_lt_of_cell? _ _ g0
      clear c0 c1 c2 d0 d1 d2 cr dr hvc huc h2 hm
      go_wp2_with fail
      go_region_held3 (fun w' => Below wr.heap.size wr w' ∧ (w'.cell? ⟨vb, vo + k * 3, none⟩ = some (.int .i64 x) ∧ w'.cell? ⟨vb, vo + k * 3 + 1, none⟩ = some (.int .i64 y) ∧ w'.cell? ⟨vb, vo + k * 3 + 2, none⟩ = some (.slice fa fn fc)) ∧ (w'.cell? ⟨ub, uo + k * 3, none⟩ = some (.int .i64 x) ∧ w'.cell? ⟨ub, uo + k * 3 + 1, none⟩ = some (.int .i64 y) ∧ w'.cell? ⟨ub, uo + k * 3 + 2, none⟩ = some (.slice ga gn gc)))
        (first | assumption | exact ⟨(Below.refl _ _).drew, ⟨e0, e1, e2⟩, g0, g1, g2⟩ | exact keep6 (by assumption) (by assumption))
        (first
          | (go_at_call 43; refine (EQ _ (And.left (by assumption))).mono ?_; rintro e w2 ⟨rfl, hb2⟩))
      all_goals go_wp2
      all_goals exact ⟨⟨k + 1, by omega, by go_num, bel_after hb (bel_after (Below.refl _ _).drew hb2)⟩, by simp [intOf]; omega⟩
    · obtain rfl : k = ns.length := by omega
      go_wp2
      go_ret
      exact ⟨rfl, hb⟩

theorem eqGraph_any (v u : Value) (g : Gr) (w : World) (hv : GR w v g) (hu : GR w u g) (h0 : g.roots.length ≤ 10000000000000) (h1 : g.nodes.length ≤ 10000000000000) (h2 : ∀ n, n ∈ g.nodes → n.fl.length ≤ 10000000000000) :
    Calls Try.prog 9 #[v, u] w fun e w' => e = .returned (.bool true) ∧ Below w.heap.size w w' := by
  obtain ⟨ra, rc, na, nc, rfl, hr, hn⟩ := hv.out
  obtain ⟨sa, sc, ma, mc, rfl, hs, hm⟩ := hu.out
  have hb0 : Below w.heap.size w ((w.alloc (.cells #[.slice ra g.roots.length rc, .slice na g.nodes.length nc, .int .i64 g.hash] 28)).alloc (.cells #[.slice sa g.roots.length sc, .slice ma g.nodes.length mc, .int .i64 g.hash] 28)) := bel_after (bel_one _ _) (bel_one _ _)
  have R0 := (graphC w (.slice ra g.roots.length rc) (.slice na g.nodes.length nc) g.hash 28).of_block ((bel_one _ (.cells #[.slice sa g.roots.length sc, .slice ma g.nodes.length mc, .int .i64 g.hash] 28)).block _ (by simp))
  have R1 := graphC (w.alloc (.cells #[.slice ra g.roots.length rc, .slice na g.nodes.length nc, .int .i64 g.hash] 28)) (.slice sa g.roots.length sc) (.slice ma g.nodes.length mc) g.hash 28
  rw [World.size_alloc] at R1
  have E1 := eqInt64S_any _ _ g.roots g.roots _ (hr.later hb0) (hs.later hb0) (by omega) (by omega)
  rw [decide_eq_true rfl] at E1
  have E2 := fun W (q : Below w.heap.size w W) => eqNodeS_any _ _ g.nodes W (hn.later q) (hm.later q) h1 h2
  have t : (g.hash != g.hash) = false := by simp
  clear hr hs hn hm
  go_enter Try.func9, Try.ntmps9
  go_wp2_with fail
  refine E1.mono ?_
  rintro e w1 ⟨rfl, hb1⟩
  have hbw1 := bel_after hb0 hb1
  have Q0 := R0.of_block (hb1.block _ R0.lt)
  have Q1 := R1.of_block (hb1.block _ R1.lt)
  have a1 : w1.cell? ⟨w.heap.size, 1, none⟩ = some (.slice na g.nodes.length nc) := Q0.cell (i := 1) (by omega)
  have b1 : w1.cell? ⟨w.heap.size + 1, 1, none⟩ = some (.slice ma g.nodes.length mc) := Q1.cell (i := 1) (by omega)
  go_wp2_with fail
  refine (E2 w1 hbw1).mono ?_
  rintro e w2 ⟨rfl, hb2⟩
  have P0 := Q0.of_block (hb2.block _ Q0.lt)
  have P1 := Q1.of_block (hb2.block _ Q1.lt)
  have a2 : w2.cell? ⟨w.heap.size, 2, none⟩ = some (.int .i64 g.hash) := P0.cell (i := 2) (by omega)
  have b2 : w2.cell? ⟨w.heap.size + 1, 2, none⟩ = some (.int .i64 g.hash) := P1.cell (i := 2) (by omega)
  go_wp2
  go_ret
  exact ⟨rfl, bel_after hbw1 hb2⟩

/-! Marks -/
def mkK (k : Int) (ns : List Nd) (i : Nat) : Int := k + (((ns.take i).map fun n => 2 + n.fl.length).sum : Nat)
theorem mkK_succ (k : Int) (ns : List Nd) (i : Nat) (h : i < ns.length) : mkK k ns (i + 1) = mkK k ns i + 2 + ((ns.getD i nd0).fl.length : Int) := by
  unfold mkK
  rw [List.take_succ_eq_append_getElem h, List.map_append, List.sum_append]
  simp only [List.map_cons, List.map_nil, List.sum_cons, List.sum_nil]
  rw [show ns.getD i nd0 = ns[i] from by simp [List.getD_eq_getElem?_getD, h]]
  omega
theorem mkK_zero (k : Int) (ns : List Nd) : mkK k ns 0 = k := by simp [mkK]
theorem mkK_le (k : Int) (ns : List Nd) (i d : Nat) (h : i + d ≤ ns.length) : mkK k ns i ≤ mkK k ns (i + d) := by
  induction d with
  | zero => simp
  | succ d ih =>
    have := ih (by omega)
    have := mkK_succ k ns (i + d) (by omega)
    rw [show i + (d + 1) = (i + d) + 1 from rfl]
    omega
theorem mkK_bounds (k : Int) (ns : List Nd) (i : Nat) (h : i ≤ ns.length) : k ≤ mkK k ns i ∧ mkK k ns i ≤ mkK k ns ns.length := by
  have h1 := mkK_le k ns 0 i (by omega)
  have h2 := mkK_le k ns i (ns.length - i) (by omega)
  rw [mkK_zero, Nat.zero_add] at h1
  rw [show i + (ns.length - i) = ns.length from by omega] at h2
  exact ⟨h1, h2⟩
def nmk (k : Int) (ns : List Nd) : List Nd := (List.range ns.length).map fun i => ⟨mkK k ns i, mkK k ns i + 1, imarks (mkK k ns i + 2) (ns.getD i nd0).fl.length⟩
theorem nmk_length (k : Int) (ns : List Nd) : (nmk k ns).length = ns.length := by simp [nmk]
theorem nmk_get (k : Int) (ns : List Nd) (i : Nat) (h : i < ns.length) : (nmk k ns).getD i nd0 = ⟨mkK k ns i, mkK k ns i + 1, imarks (mkK k ns i + 2) (ns.getD i nd0).fl.length⟩ := by
  simp [nmk, h]

set_option maxRecDepth 100000 in
set_option maxHeartbeats 1600000 in
theorem heldNodeS_any (v : Value) (ns : List Nd) (k : Int) (w : World) (hv : NR w v (nmk k ns)) (h0 : 0 < k) (h1 : mkK k ns ns.length ≤ 1000000000000) (h2 : ns.length ≤ 1000000000000) :
    Calls Try.prog 30 #[v, .int .i64 k] w fun e w' => e = .returned (.int .i64 (mkK k ns ns.length)) ∧ Below w.heap.size w w' := by
  obtain ⟨va, vc, rfl, _, hvc⟩ := hv
  rw [nmk_length] at hvc ⊢
  go_enter Try.func30, Try.ntmps30
  go_wp2
  go_loopw [1, 5] (fun kv iv wr => ∃ i : Nat, i ≤ ns.length ∧ iv = .int .i64 i ∧ kv = .int .i64 (mkK k ns i) ∧ Below w.heap.size w wr) (fun _ iv _ => ns.length - (intOf iv).toNat)
  case atStart => exact ⟨0, Nat.zero_le _, rfl, by rw [mkK_zero], Below.refl _ _⟩
  case round =>
    obtain ⟨i, hi, rfl, rfl, hb⟩ := hrel
    by_cases hil : i < ns.length
    · obtain ⟨vb, vo, fa, fn, fc, rfl, c0, c1, c2, cr⟩ := hvc i hil
      rw [nmk_get k ns i hil] at c0 c1 cr
      simp only at c0 c1 cr
      have e0 := cell_later hb c0
      have e1 := cell_later hb c1
      have e2 := cell_later hb c2
      obtain ⟨b1, b2⟩ := mkK_bounds k ns i hi
      obtain ⟨b3, b4⟩ := mkK_bounds k ns (i + 1) hil
      have KS : Hid (mkK k ns (i + 1) = mkK k ns i + 2 + ((ns.getD i nd0).fl.length : Int)) := mkK_succ k ns i hil
      have HB : mkK k ns i + 2 + ((ns.getD i nd0).fl.length : Int) ≤ 1000000000000 := by rw [← KS.out]; omega
      have KE : Hid (∀ y, y = mkK k ns i + 2 + ((ns.getD i nd0).fl.length : Int) → y = mkK k ns (i + 1)) := fun y e => by rw [e, KS.out]
      have HD := fun W (q : Below w.heap.size w W) => heldInt64S_any (.slice fa fn fc) (ns.getD i nd0).fl.length (mkK k ns i + 2) W (cr.later q) (by omega) (by omega)
      generalize (ns.getD i nd0).fl.length = m at *
      generalize mkK k ns i = x at *
      have hii : (i : Int) < ns.length := by omega
      have t0 : (x != x) = false := by simp
      have t1 : (x + 1 != x + 1) = false := by simp
      have t2 : ¬ x + 2 + (m : Int) < 0 := by omega
      clear c0 c1 c2 cr hvc b3 b4
      have e3 : x + 1 + 1 = x + 2 := by omega
      have HD2 := HD wr hb
      clear HD KS
      go_wp2_with fail
      refine HD2.mono ?_
      rintro e w2 ⟨rfl, hb2⟩
      go_wp2
      exact ⟨⟨i + 1, by omega, by go_num, congrArg (Value.int .i64) (KE.out _ rfl), bel_after hb hb2⟩, by simp [intOf]; omega⟩
    · obtain rfl : i = ns.length := by omega
      go_wp2
      go_ret
      exact ⟨rfl, hb⟩

end Go.Proofs.Ytabkiihlafhanaa
