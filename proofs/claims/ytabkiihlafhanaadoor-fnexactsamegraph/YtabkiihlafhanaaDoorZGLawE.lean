/- The walk of the law on SameGraph. -/
import Derived.Test.YtabkiihlafhanaaDoorZGSame3
import Derived.Test.YtabkiihlafhanaaDoorZGTo2
namespace Go.Proofs.YtabkiihlafhanaaDoor
open Go.RowKit

/-- What a law knows of a graph that came in. -/
structure GArg (g : Gr) : Prop where
  r : g.roots.length ≤ 1000000000000000
  n : g.nodes.length ≤ 1000000000000000
  f : ∀ n, n ∈ g.nodes → n.fl.length ≤ 1000000000000000
  b : ∀ n, n ∈ g.nodes → nd64 n

set_option maxRecDepth 100000 in
set_option maxHeartbeats 3200000 in
theorem lawSameGraph_any (v u : Value) (a b : Gr) (w : World) (hv : GR w v a) (hu : GR w u b) (ga : GArg a) (gb : GArg b) (ht : GTb w) :
    Calls Tryd.prog 3 #[v, u] w fun e w' => e = .returned (.bool true) ∧ Below w.heap.size w w' := by
  obtain ⟨ra, rc, na, nc, rfl, _, _⟩ := hv.out
  obtain ⟨sa, sc, ma, mc, rfl, _, _⟩ := hu.out
  obtain ⟨R0, R1, bb⟩ := gboxes w (.slice ra a.roots.length rc) (.slice na a.nodes.length nc) (.slice sa b.roots.length sc) (.slice ma b.nodes.length mc) a.hash b.hash 25
  generalize hW0 : (w.alloc (.cells #[.slice ra a.roots.length rc, .slice na a.nodes.length nc, .int .i64 a.hash] 25)).alloc (.cells #[.slice sa b.roots.length sc, .slice ma b.nodes.length mc, .int .i64 b.hash] 25) = W0 at *
  obtain ⟨p0, p1, p2⟩ := gr_cells R0
  obtain ⟨q0, q1, q2⟩ := gr_cells R1
  have SA := szGraph_any _ a 1048576 W0 (hv.later bb) ga.r ga.n ga.f (by omega) (by omega)
  have SB := fun x W (q : Below w.heap.size w W) => szGraph_any _ b x W (hu.later q) gb.r gb.n gb.f
  have KC : Hid (∀ W, Below W0.heap.size W0 W → (W.cell? ⟨w.heap.size, 0, none⟩ = some (.slice ra a.roots.length rc) ∧ W.cell? ⟨w.heap.size, 1, none⟩ = some (.slice na a.nodes.length nc) ∧ W.cell? ⟨w.heap.size, 2, none⟩ = some (.int .i64 a.hash)) ∧ (W.cell? ⟨w.heap.size + 1, 0, none⟩ = some (.slice sa b.roots.length sc) ∧ W.cell? ⟨w.heap.size + 1, 1, none⟩ = some (.slice ma b.nodes.length mc) ∧ W.cell? ⟨w.heap.size + 1, 2, none⟩ = some (.int .i64 b.hash))) := fun W q => ⟨⟨cell_later q p0, cell_later q p1, cell_later q p2⟩, cell_later q q0, cell_later q q1, cell_later q q2⟩
  go_enter Tryd.func3, Tryd.ntmps3
  go_wp2_with fail
  refine SA.mono ?_
  rintro e w1 ⟨⟨y, rfl, hy⟩, hb1⟩
  clear p0 p1 p2 q0 q1 q2
  obtain ⟨⟨p0, p1, p2⟩, q0, q1, q2⟩ := KC.out w1 hb1
  by_cases hn : y < 0
  · go_wp2
    go_ret
    exact ⟨rfl, bel_after bb hb1⟩
  obtain ⟨⟨la0, la1, la2⟩, ly⟩ := hy.out (by omega)
  go_wp2_with fail
  refine (SB y w1 (bel_after bb hb1) (by omega) ly).mono ?_
  rintro e w2 ⟨⟨y2, rfl, hy2⟩, hb2⟩
  have hb02 := bel_after hb1 hb2
  clear p0 p1 p2 q0 q1 q2
  obtain ⟨⟨p0, p1, p2⟩, q0, q1, q2⟩ := KC.out w2 hb02
  by_cases hn2 : y2 < 0
  · go_wp2
    go_ret
    exact ⟨rfl, bel_after bb hb02⟩
  obtain ⟨⟨lb0, lb1, lb2⟩, _⟩ := hy2.out (by omega)
  have hbw2 := bel_after bb hb02
  have TA := fun W (q : Below w.heap.size w W) => toGraph_any _ a W (hv.later q) (by omega) (by omega) (fun n hn => by have := la2 n hn; omega)
  have TB := fun W (q : Below w.heap.size w W) => toGraph_any _ b W (hu.later q) (by omega) (by omega) (fun n hn => by have := lb2 n hn; omega)
  have nsa : ns64 a.nodes := fun n hn => ⟨ga.b n hn, by have := la2 n hn; omega⟩
  have nsb : ns64 b.nodes := fun n hn => ⟨gb.b n hn, by have := lb2 n hn; omega⟩
  have SP := fun v u W hv hu => specSameGraph_any v u a b W hv hu ⟨by omega, by omega⟩ (by omega) (fun n hn => by have := la2 n hn; omega) (fun n hn => by have := lb2 n hn; omega)
  have IM := fun v u W hv hu (q : Below w.heap.size w W) => implSameGraph_any v u a b W hv hu ⟨by omega, by omega⟩ (by omega) nsa nsb (ht.later q)
  have EA := fun v u W hv hu => eqGraph_any v u a W hv hu (by omega) (by omega) (fun n hn => by have := la2 n hn; omega)
  have EB := fun v u W hv hu => eqGraph_any v u b W hv hu (by omega) (by omega) (fun n hn => by have := lb2 n hn; omega)
  have tt : (grEq a b != grEq a b) = false := by simp
  generalize grEq a b = r at *
  clear SA SB hy hy2 ga gb la0 la1 la2 lb0 lb1 lb2 nsa nsb ly
  have l0 := World.block_lt_of_cell? _ _ p0
  have l1 := World.block_lt_of_cell? _ _ q0
  go_wp2_with fail
  go_region_held3 (fun w' => Below w2.heap.size w2 w' ∧ (w'.cell? ⟨w.heap.size, 0, none⟩ = some (.slice ra a.roots.length rc) ∧ w'.cell? ⟨w.heap.size, 1, none⟩ = some (.slice na a.nodes.length nc) ∧ w'.cell? ⟨w.heap.size, 2, none⟩ = some (.int .i64 a.hash)) ∧ (w'.cell? ⟨w.heap.size + 1, 0, none⟩ = some (.slice sa b.roots.length sc) ∧ w'.cell? ⟨w.heap.size + 1, 1, none⟩ = some (.slice ma b.nodes.length mc) ∧ w'.cell? ⟨w.heap.size + 1, 2, none⟩ = some (.int .i64 b.hash)))
    (first | assumption | exact ⟨(Below.refl _ _).drew, ⟨p0, p1, p2⟩, q0, q1, q2⟩ | exact keepN (by assumption) (by assumption))
    (first
      | (go_at_call 6; with_reducible refine (TA _ (bel_after hbw2 (And.left (by assumption)))).mono ?_; rintro x wa ⟨⟨pa, rfl, hpa⟩, hba⟩)
      | (go_at_call 6; with_reducible refine (TB _ (bel_after hbw2 (And.left (by assumption)))).mono ?_; rintro x wb ⟨⟨pb, rfl, hpb⟩, hbb⟩)
      | (go_at_call 5; refine (SP _ _ _ (hpa.later hbb).grn.gr hpb.grn.gr).mono ?_; rintro x w3 ⟨rfl, hb3⟩))
  have hb23 : Below w2.heap.size w2 w3 := bel_after (bel_after (bel_after (Below.refl _ _).drew hba) hbb) hb3
  have hb03 := bel_after hb02 hb23
  have hbw3 := bel_after bb hb03
  clear p0 p1 p2 q0 q1 q2
  obtain ⟨⟨p0, p1, p2⟩, q0, q1, q2⟩ := KC.out w3 hb03
  go_wp2_with fail
  with_reducible refine (TA w3 hbw3).mono ?_
  rintro e w4 ⟨⟨x0v, rfl, hx0⟩, hb4⟩
  obtain ⟨xa, xc, xn, xm, fv0, hxe, _, _, _⟩ := hx0.out
  subst hxe
  have al4 := bel_one w4 (.cells #[.slice xa a.roots.length xc, .slice xn a.nodes.length xm, .int .i64 a.hash] 30)
  have QX := graphC w4 (.slice xa a.roots.length xc) (.slice xn a.nodes.length xm) a.hash 30
  have hx5 := hx0.later al4
  have hb05 := bel_after (bel_after hb03 hb4) al4
  generalize hw5 : w4.alloc (.cells #[.slice xa a.roots.length xc, .slice xn a.nodes.length xm, .int .i64 a.hash] 30) = w5 at *
  clear p0 p1 p2 q0 q1 q2
  obtain ⟨⟨p0, p1, p2⟩, q0, q1, q2⟩ := KC.out w5 hb05
  go_wp2_with fail
  with_reducible refine (TB w5 (bel_after bb hb05)).mono ?_
  rintro e w6 ⟨⟨x1v, rfl, hx1⟩, hb6⟩
  obtain ⟨ya, yc, yn, ym, fv1, hye, _, _, _⟩ := hx1.out
  subst hye
  have al6 := bel_one w6 (.cells #[.slice ya b.roots.length yc, .slice yn b.nodes.length ym, .int .i64 b.hash] 30)
  have QY := graphC w6 (.slice ya b.roots.length yc) (.slice yn b.nodes.length ym) b.hash 30
  have hy7 := hx1.later al6
  have b57 := bel_after hb6 al6
  generalize hw7 : w6.alloc (.cells #[.slice ya b.roots.length yc, .slice yn b.nodes.length ym, .int .i64 b.hash] 30) = w7 at *
  have hx7 := hx5.later b57
  have QX7 := QX.of_block (b57.block _ QX.lt)
  have hb07 := bel_after hb05 b57
  obtain ⟨s0, s1, s2⟩ := gr_cells QX7
  obtain ⟨t0, t1, t2⟩ := gr_cells QY
  clear p0 p1 p2 q0 q1 q2
  go_wp2_with fail
  refine (IM _ _ _ hx7.grn.gr hy7.grn.gr (bel_after bb hb07)).mono ?_
  rintro e w8 ⟨rfl, hb8⟩
  have hb08 := bel_after hb07 hb8
  have hbw8 := bel_after bb hb08
  have QX8 := QX7.of_block (hb8.block _ QX7.lt)
  have QY8 := QY.of_block (hb8.block _ QY.lt)
  have hx8 := hx7.later hb8
  have hy8 := hy7.later hb8
  clear s0 s1 s2 t0 t1 t2
  obtain ⟨s0, s1, s2⟩ := gr_cells QX8
  obtain ⟨⟨p0, p1, p2⟩, q0, q1, q2⟩ := KC.out w8 hb08
  have m0 := World.block_lt_of_cell? _ _ s0
  have m1 := World.block_lt_of_cell? _ _ p0
  go_wp2_with fail
  go_region_held3 (fun w' => Below w8.heap.size w8 w' ∧ (w'.cell? ⟨w.heap.size, 0, none⟩ = some (.slice ra a.roots.length rc) ∧ w'.cell? ⟨w.heap.size, 1, none⟩ = some (.slice na a.nodes.length nc) ∧ w'.cell? ⟨w.heap.size, 2, none⟩ = some (.int .i64 a.hash)) ∧ (w'.cell? ⟨w4.heap.size, 0, none⟩ = some (.slice xa a.roots.length xc) ∧ w'.cell? ⟨w4.heap.size, 1, none⟩ = some (.slice xn a.nodes.length xm) ∧ w'.cell? ⟨w4.heap.size, 2, none⟩ = some (.int .i64 a.hash)))
    (first | assumption | exact ⟨(Below.refl _ _).drew, ⟨p0, p1, p2⟩, s0, s1, s2⟩ | exact keepN (by assumption) (by assumption))
    (first
      | (go_at_call 6; with_reducible refine (TA _ (bel_after hbw8 (And.left (by assumption)))).mono ?_; rintro x wc ⟨⟨pc, rfl, hpc⟩, hbc⟩)
      | (go_at_call 8; refine (EA _ _ _ (hx8.later (And.left (by assumption))).grn.gr hpc.grn.gr).mono ?_; rintro x w9 ⟨rfl, hb9⟩))
  have hb89 : Below w8.heap.size w8 w9 := bel_after (bel_after (Below.refl _ _).drew hbc) hb9
  have hb09 := bel_after hb08 hb89
  have hbw9 := bel_after bb hb09
  have QY9 := QY8.of_block (hb89.block _ QY8.lt)
  have hy9 := hy8.later hb89
  clear s0 s1 s2 p0 p1 p2 q0 q1 q2
  obtain ⟨t0, t1, t2⟩ := gr_cells QY9
  obtain ⟨⟨p0, p1, p2⟩, q0, q1, q2⟩ := KC.out w9 hb09
  have m2 := World.block_lt_of_cell? _ _ t0
  have m3 := World.block_lt_of_cell? _ _ q0
  go_wp2_with fail
  go_region_held3 (fun w' => Below w9.heap.size w9 w' ∧ (w'.cell? ⟨w.heap.size + 1, 0, none⟩ = some (.slice sa b.roots.length sc) ∧ w'.cell? ⟨w.heap.size + 1, 1, none⟩ = some (.slice ma b.nodes.length mc) ∧ w'.cell? ⟨w.heap.size + 1, 2, none⟩ = some (.int .i64 b.hash)) ∧ (w'.cell? ⟨w6.heap.size, 0, none⟩ = some (.slice ya b.roots.length yc) ∧ w'.cell? ⟨w6.heap.size, 1, none⟩ = some (.slice yn b.nodes.length ym) ∧ w'.cell? ⟨w6.heap.size, 2, none⟩ = some (.int .i64 b.hash)))
    (first | assumption | exact ⟨(Below.refl _ _).drew, ⟨q0, q1, q2⟩, t0, t1, t2⟩ | exact keepN (by assumption) (by assumption))
    (first
      | (go_at_call 6; with_reducible refine (TB _ (bel_after hbw9 (And.left (by assumption)))).mono ?_; rintro x wd ⟨⟨pd, rfl, hpd⟩, hbd⟩)
      | (go_at_call 8; refine (EB _ _ _ (hy9.later (And.left (by assumption))).grn.gr hpd.grn.gr).mono ?_; rintro x w10 ⟨rfl, hb10⟩))
  all_goals go_wp2
  all_goals go_ret
  all_goals exact ⟨rfl, bel_after hbw9 (bel_after (bel_after (Below.refl _ _).drew hbd) hb10)⟩

end Go.Proofs.YtabkiihlafhanaaDoor
