/- The walk of the law on Shape. -/
import Derived.Test.YtabkiihlafhanaaZGMark2
import Derived.Test.YtabkiihlafhanaaZGShI
import Derived.Test.YtabkiihlafhanaaZHLawN
namespace Go.Proofs.Ytabkiihlafhanaa
open Go.RowKit

theorem shC_small (h : Hp) : (shC h).roots.length ≤ 20 ∧ (shC h).nodes.length ≤ 3200 ∧ ∀ n, n ∈ (shC h).nodes → n.fl.length ≤ 60 := by
  rw [shape_c]
  split
  · rename_i hk
    have r := c_right hk
    obtain ⟨e1, e2⟩ := node_need r
    have h3 := ord_len r
    refine ⟨by show (h.roots.map (ren (ordF h.words h.roots))).length ≤ 20; rw [List.length_map]; exact r.2.2.2.2.2.1, by omega, fun n hn => ?_⟩
    obtain ⟨i, hi, rfl⟩ := List.getElem_of_mem hn
    obtain ⟨m, m60, hm, _⟩ := e2 i hi
    have e3 : (shP h).nodes.getD i nd0 = (shP h).nodes[i] := by simp [List.getD_eq_getElem?_getD, hi]
    rw [e3] at hm
    omega
  · exact ⟨Nat.zero_le _, Nat.zero_le _, fun n hn => by simp [gr0] at hn⟩
theorem mkK_small {k : Int} {ns : List Nd} (h : ∀ n, n ∈ ns → n.fl.length ≤ 60) : mkK k ns ns.length ≤ k + 62 * ns.length := by
  unfold mkK
  rw [List.take_length]
  have : (ns.map fun n => 2 + n.fl.length).sum ≤ 62 * ns.length := by
    induction ns with
    | nil => simp
    | cons n r ih =>
      have h1 := ih fun m hm => h m (by simp [hm])
      have h2 := h n (by simp)
      simp only [List.map_cons, List.sum_cons, List.length_cons]
      omega
  omega
theorem gr_cells {w : World} {b t : Nat} {rv nv : Value} {hh : Int} (h : w.rowIs b t 3 (grF rv nv hh)) : w.cell? ⟨b, 0, none⟩ = some rv ∧ w.cell? ⟨b, 1, none⟩ = some nv ∧ w.cell? ⟨b, 2, none⟩ = some (.int .i64 hh) :=
  ⟨h.cell (i := 0) (by omega), h.cell (i := 1) (by omega), h.cell (i := 2) (by omega)⟩
theorem Thr.grew {w w' : World} {r1 r2 r3 : Option Nat} (h : Thr w w' r1 r2 r3) : Grew w w' (fun k => r1 = some k ∨ r2 = some k ∨ r3 = some k) :=
  ⟨h.os, h.tape, h.output, h.size, fun k hk hn => h.block k hk (fun e => hn (.inl e.symm)) (fun e => hn (.inr (.inl e.symm))) (fun e => hn (.inr (.inr e.symm)))⟩
theorem GN.out {B : Nat} {w : World} {v : Value} {g : Gr} (h : GN B w v g) : ∃ ra rc na nc fv, v = .agg #[.slice ra g.roots.length rc, .slice na g.nodes.length nc, .int .i64 g.hash] ∧ w.ownsRow B 2 1 (.slice ra g.roots.length rc) g.roots.length (icells g.roots) ∧ NOwn B w (.slice na g.nodes.length nc) g.nodes fv ∧ ∀ i, i < g.nodes.length → ∀ b, Value.ownBlock (.slice ra g.roots.length rc) = some b → (fv i).ownBlock ≠ some b := by
  obtain ⟨vr, vn, fv, rfl, hr, hn, ha⟩ := h
  obtain ⟨ra, rc, rfl⟩ := own_shape hr
  obtain ⟨na, nc, rfl⟩ : ∃ na nc, vn = .slice na g.nodes.length nc := by
    obtain ⟨xs, no, _⟩ := hn
    exact own_shape no
  exact ⟨ra, rc, na, nc, fv, rfl, hr, hn, ha⟩

set_option maxRecDepth 100000 in
set_option maxHeartbeats 3200000 in
theorem lawShape_any (v1 v2 v3 : Value) (h : Hp) (w : World) (i1 : IR w v1 h.words) (i2 : IR w v2 h.roots) (i3 : IR w v3 h.kept) (h1 : h.words.length ≤ 1000000000000000) (h2 : h.roots.length ≤ 1000000000000000) (h3 : h.kept.length ≤ 1000000000000000) :
    Calls Try.prog 3 #[.agg #[v1, v2, .int .i64 h.old, .int .i64 h.eden, .int .i64 h.surv, .bool h.flip, .int .i64 h.hash, v3]] w fun e w' => e = .returned (.bool true) ∧ Below w.heap.size w w' := by
  have hb0 := bel_one w (.cells #[v1, v2, .int .i64 h.old, .int .i64 h.eden, .int .i64 h.surv, .bool h.flip, .int .i64 h.hash, v3] 24)
  have X0 := Bx.new w v1 v2 v3 h 24
  have SZ := szHeap_any v1 v2 v3 h _ (i1.later hb0) (i2.later hb0) (i3.later hb0) h1 h2 h3
  go_enter Try.func3, Try.ntmps3
  go_wp2_with fail
  refine SZ.mono ?_
  rintro e w1 ⟨⟨y, rfl, hy⟩, hb1⟩
  have hbw1 := bel_after hb0 hb1
  have X1 := X0.later hb1
  obtain ⟨a0, a1, a2, a3, a4, a5, a6, a7⟩ := id X1
  clear SZ X0
  by_cases hn : y < 0
  · go_wp2
    go_ret
    exact ⟨rfl, hbw1⟩
  obtain ⟨l1, l2, l3⟩ := hy.out (by omega)
  have TH := fun W hb => toHeap_any v1 v2 v3 h W (i1.later hb) (i2.later hb) (i3.later hb) (by omega) (by omega) (by omega)
  have SP := fun v W hv => specShape_c v h W hv (by omega) (by omega)
  have IM := fun v W hv => implShape_c v h W hv (by omega) (by omega)
  have EQ := fun v u W hv hu => eqHeap_any v u h W hv hu (by omega) (by omega) (by omega)
  have MH := fun v1 v2 v3 W o1 o2 o3 i1 i2 i3 d1 d2 d3 => markHeap_any v1 v2 v3 h 1 W o1 o2 o3 i1 i2 i3 d1 d2 d3 (by omega) (by omega) (by omega) (by omega) (by omega)
  have hz : ¬ (1 : Int) + h.words.length + h.roots.length + h.kept.length < 0 := by omega
  obtain ⟨g20, g32, g60⟩ := shC_small h
  generalize shC h = g at *
  have gk := mkK_small (k := 1 + g.roots.length) g60
  have gb := mkK_bounds (1 + g.roots.length) g.nodes g.nodes.length (Nat.le_refl _)
  have EG := fun v u W hv hu => eqGraph_any v u g W hv hu (by omega) (by omega) (fun n hn => by have := g60 n hn; omega)
  have MG := fun B vr vn fv W hr hn ha => markGraph_any B vr vn fv g 1 W hr hn ha (by omega) (by omega) (by omega)
  have HG := fun v vr vn W hv hr hn => heldGraph_any v vr vn g 1 W hv hr hn (by omega) (by omega) (by omega)
  generalize hZ : (1 : Int) + h.words.length + h.roots.length + h.kept.length = zz at *
  generalize hK : mkK (1 + g.roots.length) g.nodes g.nodes.length = kk at *
  have tz : (kk != kk) = false := by simp
  have tn : ¬ kk < 0 := by omega
  clear hZ hK gk gb h1 h2 h3 l1 l2 l3 hy
  go_wp2_with fail
  refine (TH _ hbw1).mono ?_
  rintro e w2 ⟨⟨p, rfl, hp⟩, hb2⟩
  have hbw2 := bel_after hbw1 hb2
  have X2 := X1.later hb2
  go_wp2_with fail
  refine (SP _ _ hp.hr).mono ?_
  rintro e w3 ⟨⟨sv, rfl, hsv⟩, hb3⟩
  obtain ⟨sa, sc, ma, mc, hsve, _, _⟩ := hsv.out
  subst hsve
  have alS := bel_one w3 (.cells #[.slice sa g.roots.length sc, .slice ma g.nodes.length mc, .int .i64 g.hash] 28)
  have QS := graphC w3 (.slice sa g.roots.length sc) (.slice ma g.nodes.length mc) g.hash 28
  have hsv' := hsv.later alS
  have hbw3' := bel_after (bel_after hbw2 hb3) alS
  have X3 := (X2.later hb3).later alS
  have sS : (w3.alloc (.cells #[.slice sa g.roots.length sc, .slice ma g.nodes.length mc, .int .i64 g.hash] 28)).heap.size = w3.heap.size + 1 := by simp
  have sX : w.heap.size < w3.heap.size := World.block_lt_of_cell? _ _ (X2.later hb3).c0
  generalize hwS : w3.alloc (.cells #[.slice sa g.roots.length sc, .slice ma g.nodes.length mc, .int .i64 g.hash] 28) = wS at *
  clear a0 a1 a2 a3 a4 a5 a6 a7
  obtain ⟨a0, a1, a2, a3, a4, a5, a6, a7⟩ := id X3
  clear X1 X2 hp hsv alS
  go_wp2_with fail
  refine (TH _ hbw3').mono ?_
  rintro e w4 ⟨⟨q, rfl, hq⟩, hb4⟩
  obtain ⟨qo1, qc1, qo2, qc2, qo3, qc3, rfl, ⟨qs1, qs2, qs3⟩, ⟨qr1, qr2, qr3⟩, ⟨qB1, qB2, qB3⟩, qd1, qd2, qd3⟩ := hq.out
  have qh1 := qs1.row
  have qh2 := qs2.row
  have qh3 := qs3.row
  have ge4 := hb4.size
  have al := bel_one w4 (.cells #[(.slice qo1 h.words.length qc1), (.slice qo2 h.roots.length qc2), .int .i64 h.old, .int .i64 h.eden, .int .i64 h.surv, .bool h.flip, .int .i64 h.hash, (.slice qo3 h.kept.length qc3)] 30)
  have Y5 := Bx.new w4 (.slice qo1 h.words.length qc1) (.slice qo2 h.roots.length qc2) (.slice qo3 h.kept.length qc3) h 30
  have hq5 := hq.hr.later al
  have B5 : Below wS.heap.size wS (w4.alloc (.cells #[(.slice qo1 h.words.length qc1), (.slice qo2 h.roots.length qc2), .int .i64 h.old, .int .i64 h.eden, .int .i64 h.surv, .bool h.flip, .int .i64 h.hash, (.slice qo3 h.kept.length qc3)] 30)) := bel_after hb4 al
  have s5 : (w4.alloc (.cells #[(.slice qo1 h.words.length qc1), (.slice qo2 h.roots.length qc2), .int .i64 h.old, .int .i64 h.eden, .int .i64 h.surv, .bool h.flip, .int .i64 h.hash, (.slice qo3 h.kept.length qc3)] 30)).heap.size = w4.heap.size + 1 := by simp
  generalize hw5 : w4.alloc (.cells #[(.slice qo1 h.words.length qc1), (.slice qo2 h.roots.length qc2), .int .i64 h.old, .int .i64 h.eden, .int .i64 h.surv, .bool h.flip, .int .i64 h.hash, (.slice qo3 h.kept.length qc3)] 30) = w5 at *
  obtain ⟨b0, b1, b2, b3, b4, b5, b6, b7⟩ := id Y5
  clear a0 a1 a2 a3 a4 a5 a6 a7 hq
  go_wp2_with fail
  refine (IM _ _ hq5).mono ?_
  rintro e w6 ⟨⟨gv, rfl, hgv⟩, hb6⟩
  obtain ⟨ga, gc, na, nc, fv, hge, go1, gn1, gap⟩ := hgv.out
  subst hge
  have alG := bel_one w6 (.cells #[.slice ga g.roots.length gc, .slice na g.nodes.length nc, .int .i64 g.hash] 28)
  have QG := graphC w6 (.slice ga g.roots.length gc) (.slice na g.nodes.length nc) g.hash 28
  have sG : (w6.alloc (.cells #[.slice ga g.roots.length gc, .slice na g.nodes.length nc, .int .i64 g.hash] 28)).heap.size = w6.heap.size + 1 := by simp
  have B7 : Below w5.heap.size w5 (w6.alloc (.cells #[.slice ga g.roots.length gc, .slice na g.nodes.length nc, .int .i64 g.hash] 28)) := bel_after hb6 alG
  have hg7 := hgv.later alG
  generalize hw7 : w6.alloc (.cells #[.slice ga g.roots.length gc, .slice na g.nodes.length nc, .int .i64 g.hash] 28) = w7 at *
  have s6 := hb6.size
  have hs7 := hsv'.later (bel_after B5 B7)
  have QS7 := QS.of_block ((bel_after B5 B7).block _ QS.lt)
  obtain ⟨p0, p1, p2⟩ := gr_cells QS7
  obtain ⟨r0, r1, r2⟩ := gr_cells QG
  clear b0 b1 b2 b3 b4 b5 b6 b7
  go_wp2_with fail
  refine (EG _ _ _ hg7.grn.gr hs7).mono ?_
  rintro e w8 ⟨rfl, hb8⟩
  have S78 := bel_after (bel_after B5 B7) hb8
  have X8 := X3.later S78
  have Y8 := Y5.later (bel_after B7 hb8)
  have hq8 := hq5.later (bel_after B7 hb8)
  have hbw8 := bel_after hbw3' S78
  obtain ⟨a0, a1, a2, a3, a4, a5, a6, a7⟩ := id X8
  obtain ⟨b0, b1, b2, b3, b4, b5, b6, b7⟩ := id Y8
  have ltN : w.heap.size < w8.heap.size := World.block_lt_of_cell? _ _ a0
  clear p0 p1 p2 r0 r1 r2
  go_wp2_with fail
  go_region_held3 (fun w' => Below w8.heap.size w8 w' ∧ (w'.cell? ⟨w.heap.size, 0, none⟩ = some v1 ∧ w'.cell? ⟨w.heap.size, 1, none⟩ = some v2 ∧ w'.cell? ⟨w.heap.size, 2, none⟩ = some (.int .i64 h.old) ∧ w'.cell? ⟨w.heap.size, 3, none⟩ = some (.int .i64 h.eden) ∧ w'.cell? ⟨w.heap.size, 4, none⟩ = some (.int .i64 h.surv) ∧ w'.cell? ⟨w.heap.size, 5, none⟩ = some (.bool h.flip) ∧ w'.cell? ⟨w.heap.size, 6, none⟩ = some (.int .i64 h.hash) ∧ w'.cell? ⟨w.heap.size, 7, none⟩ = some v3) ∧ (w'.cell? ⟨w4.heap.size, 0, none⟩ = some (.slice qo1 h.words.length qc1) ∧ w'.cell? ⟨w4.heap.size, 1, none⟩ = some (.slice qo2 h.roots.length qc2) ∧ w'.cell? ⟨w4.heap.size, 2, none⟩ = some (.int .i64 h.old) ∧ w'.cell? ⟨w4.heap.size, 3, none⟩ = some (.int .i64 h.eden) ∧ w'.cell? ⟨w4.heap.size, 4, none⟩ = some (.int .i64 h.surv) ∧ w'.cell? ⟨w4.heap.size, 5, none⟩ = some (.bool h.flip) ∧ w'.cell? ⟨w4.heap.size, 6, none⟩ = some (.int .i64 h.hash) ∧ w'.cell? ⟨w4.heap.size, 7, none⟩ = some (.slice qo3 h.kept.length qc3)))
    (first | assumption | exact ⟨(Below.refl _ _).drew, ⟨a0, a1, a2, a3, a4, a5, a6, a7⟩, b0, b1, b2, b3, b4, b5, b6, b7⟩ | exact keep16 (by assumption) (by assumption))
    (first
      | (go_at_call 7; refine (TH _ (bel_after hbw8 (And.left (by assumption)))).mono ?_; rintro x w9 ⟨⟨u, rfl, hu⟩, hb9⟩)
      | (go_at_call 10; refine (EQ _ _ _ (hq8.later (And.left (by assumption))) hu.hr).mono ?_; rintro x w10 ⟨rfl, hb10⟩))
  have hbR : Below w8.heap.size w8 w10 := bel_after (bel_after (Below.refl _ _).drew hb9) hb10
  have Y10 := Y8.later hbR
  have c410 : Below w4.heap.size w4 w10 := bel_after (bel_after (bel_after al B7) hb8) hbR
  have M := MH _ _ _ w10 (qs1.later c410) (qs2.later c410) (qs3.later c410) (qr1.later c410) (qr2.later c410) (qr3.later c410) qd1 qd2 qd3
  have S10 : Below wS.heap.size wS w10 := bel_after S78 hbR
  have z10 := S10.size
  have go10 := own_later (own_later (own_later go1 alG) hb8) hbR
  have gn10 := (Grew.new (bel_after (bel_after alG hb8) hbR) (fun _ => False)).nown gn1 (fun _ q => q.elim)
  have hg10 := (hg7.later hb8).later hbR
  have QG10 := QG.of_block ((bel_after hb8 hbR).block _ QG.lt)
  clear a0 a1 a2 a3 a4 a5 a6 a7 b0 b1 b2 b3 b4 b5 b6 b7
  obtain ⟨b0, b1, b2, b3, b4, b5, b6, b7⟩ := id Y10
  clear X8 Y8 hq8
  go_wp2_with fail
  refine M.mono ?_
  rintro e w11 ⟨rfl, T, -, -, -⟩
  have GT : Grew w10 w11 (fun k => wS.heap.size ≤ k ∧ k < w4.heap.size) := T.grew.mono fun k _ e => by
    rcases e with e | e | e
    · exact ⟨qB1 k e, qh1 k e⟩
    · exact ⟨qB2 k e, qh2 k e⟩
    · exact ⟨qB3 k e, qh3 k e⟩
  have S11 : Below wS.heap.size wS w11 := S10.trans (GT.below z10 fun b _ e => e.1)
  have go11 := GT.own go10 (fun b e q => by have := (go10.lt b e).1; omega)
  have gn11 := GT.nown gn10 (fun b e => by omega)
  have hg11 := GT.gn hg10 (fun b e => by omega)
  have QG11 := GT.row QG10 (fun e => by omega)
  have hs11 := hsv'.later S11
  have QS11 := QS.of_block (S11.block _ QS.lt)
  obtain ⟨p0, p1, p2⟩ := gr_cells QS11
  obtain ⟨r0, r1, r2⟩ := gr_cells QG11
  clear b0 b1 b2 b3 b4 b5 b6 b7 Y10 M T go10 gn10 hg10 QG10
  go_wp2_with fail
  refine (EG _ _ _ hg11.grn.gr hs11).mono ?_
  rintro e w12 ⟨rfl, hb12⟩
  have S12 := bel_after S11 hb12
  have go12 := own_later go11 hb12
  have gn12 := (Grew.new hb12 (fun _ => False)).nown gn11 (fun _ q => q.elim)
  have QG12 := QG11.of_block (hb12.block _ QG11.lt)
  clear p0 p1 p2 r0 r1 r2
  obtain ⟨r0, r1, r2⟩ := gr_cells QG12
  go_wp2_with fail
  refine (MG _ _ _ fv w12 go12 gn12 gap).mono ?_
  rintro e w13 ⟨⟨rfl, m1, m2⟩, GM⟩
  have SB : ∀ b, (Value.ownBlock (.slice ga g.roots.length gc) = some b ∨ Value.ownBlock (.slice na g.nodes.length nc) = some b ∨ ∃ j, j < g.nodes.length ∧ (fv j).ownBlock = some b) → w5.heap.size ≤ b ∧ b < w6.heap.size := fun b e => by
    obtain ⟨xs, no, nt, nf, nap⟩ := gn1
    rcases e with e | e | ⟨j, hj, e⟩
    · exact go1.lt b e
    · exact no.lt b e
    · exact (nf j hj).lt b e
  have S13 : Below wS.heap.size wS w13 := S12.trans (GM.below S12.size fun b _ e => by have := SB b e; omega)
  have QG13 := GM.row QG12 (fun e => by have := SB _ e; omega)
  have X13 := X3.later S13
  clear r0 r1 r2
  obtain ⟨r0, r1, r2⟩ := gr_cells QG13
  clear go11 gn11 hg11 go12 gn12 QG12 QG11 QS11
  go_wp2_with fail
  refine (HG _ _ _ w13 rfl m1 m2).mono ?_
  rintro e w14 ⟨rfl, hb14⟩
  have S14 := bel_after S13 hb14
  have X14 := X13.later hb14
  have hbw14 := bel_after hbw3' S14
  obtain ⟨a0, a1, a2, a3, a4, a5, a6, a7⟩ := id X14
  clear r0 r1 r2
  go_wp2_with fail
  refine (TH _ hbw14).mono ?_
  rintro e w15 ⟨⟨r, rfl, hr⟩, hb15⟩
  go_wp2_with fail
  refine (IM _ _ hr.hr).mono ?_
  rintro e w16 ⟨⟨hv2, rfl, hg2⟩, hb16⟩
  obtain ⟨ea, ec, da, dc, fv2, he2, _, _, _⟩ := hg2.out
  subst he2
  have alH := bel_one w16 (.cells #[.slice ea g.roots.length ec, .slice da g.nodes.length dc, .int .i64 g.hash] 28)
  have QH := graphC w16 (.slice ea g.roots.length ec) (.slice da g.nodes.length dc) g.hash 28
  have S17 := bel_after (bel_after (bel_after S14 hb15) hb16) alH
  have b1417 := bel_after (bel_after hb15 hb16) alH
  have hg17 := hg2.later alH
  generalize hw17 : w16.alloc (.cells #[.slice ea g.roots.length ec, .slice da g.nodes.length dc, .int .i64 g.hash] 28) = w17 at *
  have hs17 := hsv'.later S17
  have QS17 := QS.of_block (S17.block _ QS.lt)
  obtain ⟨p0, p1, p2⟩ := gr_cells QS17
  obtain ⟨r0, r1, r2⟩ := gr_cells QH
  clear a0 a1 a2 a3 a4 a5 a6 a7
  go_wp2_with fail
  refine (EG _ _ _ hg17.grn.gr hs17).mono ?_
  rintro e w18 ⟨rfl, hb18⟩
  have b1318 : Below w13.heap.size w13 w18 := bel_after (bel_after hb14 b1417) hb18
  have QG18 := QG13.of_block (b1318.block _ QG13.lt)
  clear p0 p1 p2 r0 r1 r2
  obtain ⟨r0, r1, r2⟩ := gr_cells QG18
  have S18 := bel_after S17 hb18
  go_wp2_with fail
  refine (HG _ _ _ w18 rfl (m1.later b1318) (m2.later b1318)).mono ?_
  rintro e w19 ⟨rfl, hb19⟩
  go_wp2
  go_ret
  exact ⟨rfl, bel_after hbw3' (bel_after S18 hb19)⟩

end Go.Proofs.Ytabkiihlafhanaa
