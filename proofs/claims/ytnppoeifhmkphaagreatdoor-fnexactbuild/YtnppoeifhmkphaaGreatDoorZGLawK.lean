/- The walk of the law on GraphOk. -/
import Derived.Test.YtnppoeifhmkphaaGreatDoorZMN
import Derived.Test.YtnppoeifhmkphaaGreatDoorZGOkI
import Derived.Test.YtnppoeifhmkphaaGreatDoorZME
namespace Go.Proofs.YtnppoeifhmkphaaGreatDoor
open Go.RowKit

/-- What a law knows of a graph that came in. -/
structure GArg (g : Gr) : Prop where
  r : g.roots.length ≤ 1000000000000000
  n : g.nodes.length ≤ 1000000000000000
  f : ∀ n, n ∈ g.nodes → n.fl.length ≤ 1000000000000000
  b : ∀ n, n ∈ g.nodes → nd64 n
  rb : ∀ x, x ∈ g.roots → g64 x

set_option maxRecDepth 100000 in
set_option maxHeartbeats 3200000 in
theorem lawGraphOk_any (v : Value) (a : Gr) (w : World) (hv : GR w v a) (ga : GArg a) (ht : GTb w) :
    Calls Tryz.prog 3 #[v] w fun e w' => e = .returned (.bool true) ∧ Below w.heap.size w w' := by
  obtain ⟨ra, rc, na, nc, rfl, _, _⟩ := hv.out
  have R0 := graphC w (.slice ra a.roots.length rc) (.slice na a.nodes.length nc) a.hash 25
  have bb := bel_one w (.cells #[.slice ra a.roots.length rc, .slice na a.nodes.length nc, .int .i64 a.hash] 25)
  generalize hW0 : w.alloc (.cells #[.slice ra a.roots.length rc, .slice na a.nodes.length nc, .int .i64 a.hash] 25) = W0 at *
  obtain ⟨p0, p1, p2⟩ := gr_cells R0
  have SA := szGraph_any _ a 1048576 W0 (hv.later bb) ga.r ga.n ga.f (by omega) (by omega)
  have KC : Hid (∀ W, Below W0.heap.size W0 W → (W.cell? ⟨w.heap.size, 0, none⟩ = some (.slice ra a.roots.length rc) ∧ W.cell? ⟨w.heap.size, 1, none⟩ = some (.slice na a.nodes.length nc) ∧ W.cell? ⟨w.heap.size, 2, none⟩ = some (.int .i64 a.hash))) := fun W q => ⟨cell_later q p0, cell_later q p1, cell_later q p2⟩
  go_enter Tryz.func3, Tryz.ntmps3
  go_wp2_with fail
  refine SA.mono ?_
  rintro e w1 ⟨⟨y, rfl, hy⟩, hb1⟩
  clear p0 p1 p2
  obtain ⟨p0, p1, p2⟩ := KC.out w1 hb1
  by_cases hn : y < 0
  · go_wp2
    go_ret
    exact ⟨rfl, bel_after bb hb1⟩
  obtain ⟨⟨la0, la1, la2⟩, ly⟩ := hy.out (by omega)
  have hbw1 := bel_after bb hb1
  have TA := fun W (q : Below w.heap.size w W) => toGraph_any _ a W (hv.later q) (by omega) (by omega) (fun n hn => by have := la2 n hn; omega)
  have nsa : ns64 a.nodes := fun n hn => ⟨ga.b n hn, by have := la2 n hn; omega⟩
  have SP := fun v W hv => specGraphOk_c v a W hv (by omega) (by omega) nsa ga.rb
  have IM := fun v W hv (q : Below w.heap.size w W) => implGraphOk_c v a W hv (by omega) (by omega) nsa (ht.later q)
  have EA := fun v u W hv hu => eqGraph_any v u a W hv hu (by omega) (by omega) (fun n hn => by have := la2 n hn; omega)
  have tt : (gokC a != gokC a) = false := by simp
  generalize gokC a = r at *
  clear SA hy ga la0 la1 la2 nsa ly
  go_wp2_with fail
  with_reducible refine (TA w1 hbw1).mono ?_
  rintro e w2 ⟨⟨x1v, rfl, hx1⟩, hb2⟩
  have hb02 := bel_after hb1 hb2
  clear p0 p1 p2
  go_wp2_with fail
  refine (SP _ w2 hx1.grn.gr).mono ?_
  rintro e w3 ⟨rfl, hb3⟩
  have hb03 := bel_after hb02 hb3
  have hbw3 := bel_after bb hb03
  obtain ⟨p0, p1, p2⟩ := KC.out w3 hb03
  go_wp2_with fail
  with_reducible refine (TA w3 hbw3).mono ?_
  rintro e w4 ⟨⟨x0v, rfl, hx0⟩, hb4⟩
  obtain ⟨xa, xc, xn, xm, fv0, hxe, _, _, _⟩ := hx0.out
  subst hxe
  have al4 := bel_one w4 (.cells #[.slice xa a.roots.length xc, .slice xn a.nodes.length xm, .int .i64 a.hash] 30)
  have QX := graphC w4 (.slice xa a.roots.length xc) (.slice xn a.nodes.length xm) a.hash 30
  have hx5 := hx0.later al4
  have hb05 := bel_after (bel_after hb03 hb4) al4
  generalize hw5 : w4.alloc (.cells #[.slice xa a.roots.length xc, .slice xn a.nodes.length xm, .int .i64 a.hash] 30) = w5 at *
  clear p0 p1 p2
  obtain ⟨s0, s1, s2⟩ := gr_cells QX
  go_wp2_with fail
  refine (IM _ w5 hx5.grn.gr (bel_after bb hb05)).mono ?_
  rintro e w8 ⟨rfl, hb8⟩
  have hb08 := bel_after hb05 hb8
  have hbw8 := bel_after bb hb08
  have QX8 := QX.of_block (hb8.block _ QX.lt)
  have hx8 := hx5.later hb8
  clear s0 s1 s2
  obtain ⟨s0, s1, s2⟩ := gr_cells QX8
  obtain ⟨p0, p1, p2⟩ := KC.out w8 hb08
  have m0 := World.block_lt_of_cell? _ _ s0
  have m1 := World.block_lt_of_cell? _ _ p0
  go_wp2_with fail
  go_region_held3 (fun w' => Below w8.heap.size w8 w' ∧ (w'.cell? ⟨w.heap.size, 0, none⟩ = some (.slice ra a.roots.length rc) ∧ w'.cell? ⟨w.heap.size, 1, none⟩ = some (.slice na a.nodes.length nc) ∧ w'.cell? ⟨w.heap.size, 2, none⟩ = some (.int .i64 a.hash)) ∧ (w'.cell? ⟨w4.heap.size, 0, none⟩ = some (.slice xa a.roots.length xc) ∧ w'.cell? ⟨w4.heap.size, 1, none⟩ = some (.slice xn a.nodes.length xm) ∧ w'.cell? ⟨w4.heap.size, 2, none⟩ = some (.int .i64 a.hash)))
    (first | assumption | exact ⟨(Below.refl _ _).drew, ⟨p0, p1, p2⟩, s0, s1, s2⟩ | exact keepN (by assumption) (by assumption))
    (first
      | (go_at_call 7; with_reducible refine (TA _ (bel_after hbw8 (And.left (by assumption)))).mono ?_; rintro x wc ⟨⟨pc, rfl, hpc⟩, hbc⟩)
      | (go_at_call 9; refine (EA _ _ _ (hx8.later (And.left (by assumption))).grn.gr hpc.grn.gr).mono ?_; rintro x w9 ⟨rfl, hb9⟩))
  all_goals go_wp2
  all_goals go_ret
  all_goals exact ⟨rfl, bel_after hbw8 (bel_after (bel_after (Below.refl _ _).drew hbc) hb9)⟩

end Go.Proofs.YtnppoeifhmkphaaGreatDoor
