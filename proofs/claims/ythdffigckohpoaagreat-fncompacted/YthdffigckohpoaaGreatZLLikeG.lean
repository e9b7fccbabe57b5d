/- Graphs held against each other in a law: likeGraph. -/
import Derived.Test.YthdffigckohpoaaGreatZV12
import Derived.Test.YthdffigckohpoaaGreatZV13
import Derived.Test.YthdffigckohpoaaGreatZV6
namespace Go.Proofs.YthdffigckohpoaaGreat
open Go.RowKit
set_option maxRecDepth 100000 in
set_option maxHeartbeats 6400000 in
theorem likeGraph_any (v u : Value) (g : Gr) (w : World) (hv : GR w v g) (hu : GR w u g) (h0 : g.roots.length <= 1000000000000) (h1 : g.nodes.length <= 1000000000000) (h2 : ∀ n, n ∈ g.nodes -> n.fl.length <= 1000000000000) :
  Calls Tryz.prog 19 #[v, u] w fun e w' => e = .returned (.bool true) /\ Below w.heap.size w w' := by
 obtain ⟨ra, rc, na, nc, rfl, hr, hn⟩ := hv.out
 obtain ⟨sa, sc, ma, mc, rfl, hs, hm⟩ := hu.out
 have hb0 : Below w.heap.size w ((w.alloc (.cells #[.slice ra g.roots.length rc, .slice na g.nodes.length nc, .int .i64 g.hash] 40)).alloc (.cells #[.slice sa g.roots.length sc, .slice ma g.nodes.length mc, .int .i64 g.hash] 40)) := bel_after (bel_one _ _) (bel_one _ _)
 have R0 := (graphC w (.slice ra g.roots.length rc) (.slice na g.nodes.length nc) g.hash 40).of_block ((bel_one _ (.cells #[.slice sa g.roots.length sc, .slice ma g.nodes.length mc, .int .i64 g.hash] 40)).block _ (by simp))
 have R1 := graphC (w.alloc (.cells #[.slice ra g.roots.length rc, .slice na g.nodes.length nc, .int .i64 g.hash] 40)) (.slice sa g.roots.length sc) (.slice ma g.nodes.length mc) g.hash 40
 rw [World.size_alloc] at R1
 have E1 := likeInts_any _ _ g.roots _ (hr.later hb0) (hs.later hb0) (by omega)
 have tt : (g.hash != g.hash) = false := by simp
 have tn : ((g.nodes.length : Int) != (g.nodes.length : Int)) = false := by simp
 have hmx : Tryz.prog.follows .mixedOrders = true := by kernel_rfl
 clear hr hs
 go_enter Tryz.func19, Tryz.ntmps19
 go_wp2_with fail
 refine E1.mono ?_
 rintro e w1 ⟨rfl, hb1⟩
 have hbw1 := bel_after hb0 hb1
 have Q0 := R0.of_block (hb1.block _ R0.lt)
 have Q1 := R1.of_block (hb1.block _ R1.lt)
 have x1 : w1.cell? ⟨w.heap.size, 1, none⟩ = some (.slice na g.nodes.length nc) := Q0.cell (i := 1) (by omega)
 have y1 : w1.cell? ⟨w.heap.size + 1, 1, none⟩ = some (.slice ma g.nodes.length mc) := Q1.cell (i := 1) (by omega)
 have x2 : w1.cell? ⟨w.heap.size, 2, none⟩ = some (.int .i64 g.hash) := Q0.cell (i := 2) (by omega)
 have y2 : w1.cell? ⟨w.heap.size + 1, 2, none⟩ = some (.int .i64 g.hash) := Q1.cell (i := 2) (by omega)
 have hn1 := hn.later hbw1
 have hm1 := hm.later hbw1
 clear hn hm R0 R1 Q0 Q1 E1 hb0 hb1
 go_wp2
 go_loopw [5] (fun kv wr => ∃ k : Nat, k <= g.nodes.length /\ kv = .int .i64 k /\ Below w1.heap.size w1 wr) (fun kv _ => g.nodes.length - (intOf kv).toNat)
 case atStart => exact ⟨0, Nat.zero_le _, rfl, Below.refl _ _⟩
 case round =>
  obtain ⟨k, hk, rfl, hb⟩ := hrel
  have X1 := cell_later hb x1
  by_cases hlt : k < g.nodes.length
  ·obtain ⟨na', nc', e1, _, hna⟩ := hn1
   simp only [Value.slice.injEq, true_and] at e1
   obtain ⟨rfl, rfl⟩ := e1
   obtain ⟨ma', mc', e2, _, hma⟩ := hm1
   simp only [Value.slice.injEq, true_and] at e2
   obtain ⟨rfl, rfl⟩ := e2
   obtain ⟨ab, ao, fa, fn, fc, rfl, p0, p1, p2, pf⟩ := hna k hlt
   obtain ⟨bb, bo, ga, gn, gc, rfl, q0, q1, q2, qf⟩ := hma k hlt
   have hfl := h2 _ (List.getElem_mem hlt)
   have en : g.nodes.getD k nd0 = g.nodes[k] := by simp [List.getD_eq_getElem?_getD, hlt]
   rw [<- en] at hfl
   generalize g.nodes.getD k nd0 = nd at *
   obtain ⟨cl, hh, fl⟩ := nd
   obtain ⟨a0, c0, e3, -⟩ := id pf
   simp only [Value.slice.injEq] at e3
   obtain ⟨-, rfl, -⟩ := e3
   obtain ⟨a0, c0, e3, -⟩ := id qf
   simp only [Value.slice.injEq] at e3
   obtain ⟨-, rfl, -⟩ := e3
   have if_ := pf.later hb
   have ig := qf.later hb
   have Y1 := cell_later hb y1
   have A1 : ∀ W', Below wr.heap.size wr W' -> W'.cell? ⟨w.heap.size, 1, none⟩ = some (.slice (some ⟨ab, ao, none⟩) g.nodes.length nc) := fun W' q => cell_later q X1
   have B1 : ∀ W', Below wr.heap.size wr W' -> W'.cell? ⟨w.heap.size + 1, 1, none⟩ = some (.slice (some ⟨bb, bo, none⟩) g.nodes.length mc) := fun W' q => cell_later q Y1
   have ac0 : ∀ W', Below wr.heap.size wr W' -> W'.cell? ⟨ab, ao + k * 3, none⟩ = some (.int .i64 cl) := fun W' q => cell_later q (cell_later hb p0)
   have ac1 : ∀ W', Below wr.heap.size wr W' -> W'.cell? ⟨ab, ao + k * 3 + 1, none⟩ = some (.int .i64 hh) := fun W' q => cell_later q (cell_later hb p1)
   have ac2 : ∀ W', Below wr.heap.size wr W' -> W'.cell? ⟨ab, ao + k * 3 + 2, none⟩ = some (.slice fa fl.length fc) := fun W' q => cell_later q (cell_later hb p2)
   have bc0 : ∀ W', Below wr.heap.size wr W' -> W'.cell? ⟨bb, bo + k * 3, none⟩ = some (.int .i64 cl) := fun W' q => cell_later q (cell_later hb q0)
   have bc1 : ∀ W', Below wr.heap.size wr W' -> W'.cell? ⟨bb, bo + k * 3 + 1, none⟩ = some (.int .i64 hh) := fun W' q => cell_later q (cell_later hb q1)
   have bc2 : ∀ W', Below wr.heap.size wr W' -> W'.cell? ⟨bb, bo + k * 3 + 2, none⟩ = some (.slice ga fl.length gc) := fun W' q => cell_later q (cell_later hb q2)
   have lt1 : (k : Int) < (g.nodes.length : Int) := by omega
   have t1 : (cl != cl) = false := by simp
   have t2 : (hh != hh) = false := by simp
   have hfl' : fl.length <= 1000000000000 := hfl
   have hk1 : k + 1 <= g.nodes.length := hlt
   clear p0 p1 p2 pf q0 q1 q2 qf hna hma en hfl h2 Y1 y1 x1 x2 y2
   have hs0 : Below wr.heap.size wr wr.drew := (Below.refl _ _).drew
   go_wp2_with fail
   refine Disk.z_plain 99 (fun W' => Below wr.heap.size wr W') hmx hs0 (fun hs => ?_)
   clear hs0
   generalize wr.drew = wd at hs ⊢
   refine Disk.zt0 0 35 (v := .pointer (some ⟨w.heap.size, 1, none⟩)) rfl rfl hs ?_
   simp only [zA, zB, zC]
   refine Disk.zt 1 36 (v := .slice (some ⟨ab, ao, none⟩) g.nodes.length nc) rfl rfl hs (fun W' hSw => (by
    have c := A1 _ hSw
    go_simp; first | done | with_reducible rfl)) ?_
   simp only [zA, zB, zC]
   refine Disk.zt0 2 37 (v := .int .i64 k) rfl rfl hs ?_
   simp only [zA, zB, zC]
   refine Disk.zt0 3 38 (v := .pointer (some ⟨ab, ao + k * 3, none⟩)) rfl rfl hs ?_
   simp only [zA, zB, zC]
   refine Disk.zt0 4 39 (v := .pointer (some ⟨ab, ao + k * 3, none⟩)) rfl rfl hs ?_
   simp only [zA, zB, zC]
   refine Disk.zt 5 40 (v := .int .i64 cl) rfl rfl hs (fun W' hSw => (by
    have c := ac0 _ hSw
    go_simp; first | done | with_reducible rfl)) ?_
   simp only [zA, zB, zC]
   refine Disk.zt0 6 41 (v := .pointer (some ⟨w.heap.size + 1, 1, none⟩)) rfl rfl hs ?_
   simp only [zA, zB, zC]
   refine Disk.zt 7 42 (v := .slice (some ⟨bb, bo, none⟩) g.nodes.length mc) rfl rfl hs (fun W' hSw => (by
    have c := B1 _ hSw
    go_simp; first | done | with_reducible rfl)) ?_
   simp only [zA, zB, zC]
   refine Disk.zt0 8 43 (v := .int .i64 k) rfl rfl hs ?_
   simp only [zA, zB, zC]
   refine Disk.zt0 9 44 (v := .pointer (some ⟨bb, bo + k * 3, none⟩)) rfl rfl hs ?_
   simp only [zA, zB, zC]
   refine Disk.zt0 10 45 (v := .pointer (some ⟨bb, bo + k * 3, none⟩)) rfl rfl hs ?_
   simp only [zA, zB, zC]
   refine Disk.zt 11 46 (v := .int .i64 cl) rfl rfl hs (fun W' hSw => (by
    have c := bc0 _ hSw
    go_simp; first | done | with_reducible rfl)) ?_
   simp only [zA, zB, zC]
   refine Disk.zt0 12 47 (v := .bool false) rfl rfl hs ?_
   simp only [zA, zB, zC]
   refine Disk.zt0 13 48 (v := .bool false) rfl rfl hs ?_
   simp only [zA, zB, zC]
   refine Disk.zt0 14 49 (v := .pointer (some ⟨w.heap.size, 1, none⟩)) rfl rfl hs ?_
   simp only [zA, zB, zC]
   refine Disk.zt 15 50 (v := .slice (some ⟨ab, ao, none⟩) g.nodes.length nc) rfl rfl hs (fun W' hSw => (by
    have c := A1 _ hSw
    go_simp; first | done | with_reducible rfl)) ?_
   simp only [zA, zB, zC]
   refine Disk.zt0 16 51 (v := .int .i64 k) rfl rfl hs ?_
   simp only [zA, zB, zC]
   refine Disk.zt0 17 52 (v := .pointer (some ⟨ab, ao + k * 3, none⟩)) rfl rfl hs ?_
   simp only [zA, zB, zC]
   refine Disk.zt0 18 53 (v := .pointer (some ⟨ab, ao + k * 3 + 1, none⟩)) rfl rfl hs ?_
   simp only [zA, zB, zC]
   refine Disk.zt 19 54 (v := .int .i64 hh) rfl rfl hs (fun W' hSw => (by
    have c := ac1 _ hSw
    go_simp; first | done | with_reducible rfl)) ?_
   simp only [zA, zB, zC]
   refine Disk.zt0 20 55 (v := .pointer (some ⟨w.heap.size + 1, 1, none⟩)) rfl rfl hs ?_
   simp only [zA, zB, zC]
   refine Disk.zt 21 56 (v := .slice (some ⟨bb, bo, none⟩) g.nodes.length mc) rfl rfl hs (fun W' hSw => (by
    have c := B1 _ hSw
    go_simp; first | done | with_reducible rfl)) ?_
   simp only [zA, zB, zC]
   refine Disk.zt0 22 57 (v := .int .i64 k) rfl rfl hs ?_
   simp only [zA, zB, zC]
   refine Disk.zt0 23 58 (v := .pointer (some ⟨bb, bo + k * 3, none⟩)) rfl rfl hs ?_
   simp only [zA, zB, zC]
   refine Disk.zt0 24 59 (v := .pointer (some ⟨bb, bo + k * 3 + 1, none⟩)) rfl rfl hs ?_
   simp only [zA, zB, zC]
   refine Disk.zt 25 60 (v := .int .i64 hh) rfl rfl hs (fun W' hSw => (by
    have c := bc1 _ hSw
    go_simp; first | done | with_reducible rfl)) ?_
   simp only [zA, zB, zC]
   refine Disk.zt0 26 61 (v := .bool false) rfl rfl hs ?_
   simp only [zA, zB, zC]
   refine Disk.zt0 27 62 (v := .bool false) rfl rfl hs ?_
   simp only [zA, zB, zC]
   refine Disk.zt0 28 63 (v := .bool false) rfl rfl hs ?_
   simp only [zA, zB, zC]
   refine Disk.zt0 29 64 (v := .pointer (some ⟨w.heap.size, 1, none⟩)) rfl rfl hs ?_
   simp only [zA, zB, zC]
   refine Disk.zt 30 65 (v := .slice (some ⟨ab, ao, none⟩) g.nodes.length nc) rfl rfl hs (fun W' hSw => (by
    have c := A1 _ hSw
    go_simp; first | done | with_reducible rfl)) ?_
   simp only [zA, zB, zC]
   refine Disk.zt0 31 66 (v := .int .i64 k) rfl rfl hs ?_
   simp only [zA, zB, zC]
   refine Disk.zt0 32 67 (v := .pointer (some ⟨ab, ao + k * 3, none⟩)) rfl rfl hs ?_
   simp only [zA, zB, zC]
   refine Disk.zt0 33 68 (v := .pointer (some ⟨ab, ao + k * 3 + 2, none⟩)) rfl rfl hs ?_
   simp only [zA, zB, zC]
   refine Disk.zt 34 69 (v := .slice fa fl.length fc) rfl rfl hs (fun W' hSw => (by
    have c := ac2 _ hSw
    go_simp; first | done | with_reducible rfl)) ?_
   simp only [zA, zB, zC]
   refine Disk.zt0 35 70 (v := .pointer (some ⟨w.heap.size + 1, 1, none⟩)) rfl rfl hs ?_
   simp only [zA, zB, zC]
   refine Disk.zt 36 71 (v := .slice (some ⟨bb, bo, none⟩) g.nodes.length mc) rfl rfl hs (fun W' hSw => (by
    have c := B1 _ hSw
    go_simp; first | done | with_reducible rfl)) ?_
   simp only [zA, zB, zC]
   refine Disk.zt0 37 72 (v := .int .i64 k) rfl rfl hs ?_
   simp only [zA, zB, zC]
   refine Disk.zt0 38 73 (v := .pointer (some ⟨bb, bo + k * 3, none⟩)) rfl rfl hs ?_
   simp only [zA, zB, zC]
   refine Disk.zt0 39 74 (v := .pointer (some ⟨bb, bo + k * 3 + 2, none⟩)) rfl rfl hs ?_
   simp only [zA, zB, zC]
   refine Disk.zt 40 75 (v := .slice ga fl.length gc) rfl rfl hs (fun W' hSw => (by
    have c := bc2 _ hSw
    go_simp; first | done | with_reducible rfl)) ?_
   simp only [zA, zB, zC]
   refine Disk.zc 41 76 rfl rfl (f := 14) (args := #[.slice fa fl.length fc, .slice ga fl.length gc]) (w0 := wd) ?_
   refine (likeInts_any _ _ fl _ (if_.later hs) (ig.later hs) (by omega)).mono ?_
   rintro e wq ⟨rfl, hbq⟩
   replace hs := bel_after hs hbq
   clear hbq
   refine ⟨_, rfl, .inr hs, ?_⟩
   simp only [zA, zB, zC]
   refine Disk.zt0 42 77 (v := .bool false) rfl rfl hs ?_
   simp only [zA, zB, zC]
   refine Disk.zt0 43 78 (v := .bool false) rfl rfl hs ?_
   simp only [zA, zB, zC]
   refine Disk.z_done (by kernel_rfl) ?_ _
   have hbe := bel_after hb hs
   clear hs A1 B1 ac0 ac1 ac2 bc0 bc1 bc2
   go_wp2
   exact ⟨⟨k + 1, hk1, by go_num, hbe⟩, by simp [intOf]; omega⟩
  ·obtain rfl : k = g.nodes.length := by omega
   have hbe := bel_after hbw1 hb
   go_wp2
   go_ret
   exact ⟨rfl, hbe⟩
end Go.Proofs.YthdffigckohpoaaGreat
