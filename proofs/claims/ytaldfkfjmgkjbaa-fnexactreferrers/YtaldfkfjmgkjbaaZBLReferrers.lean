/- The walk of the law on Referrers. -/
import Derived.Test.YtaldfkfjmgkjbaaZHLawN
import Derived.Test.YtaldfkfjmgkjbaaZBRfS
namespace Go.Proofs.Ytaldfkfjmgkjbaa
open Go.RowKit

theorem specReferrers_o (v : Value) (h : Hp) (x : Int) (w : World) (hv : HR w v h) (hro : h.roots.length ≤ 1000000000000) (hke : h.kept.length ≤ 1000000000000) (hx : In64 x) :
    Calls Try.prog 15 #[v, .int .i64 x] w fun e w' => (∃ u, e = .returned u ∧ IR w' u (ints (rfC h x))) ∧ Below w.heap.size w w' :=
  (specReferrers_c v h x w hv hro hke hx).mono fun _ _ ⟨⟨u, e, k⟩, b⟩ => ⟨⟨u, e, IR_of_owns' k⟩, b⟩

set_option maxRecDepth 100000 in
set_option maxHeartbeats 1600000 in
theorem lawReferrers_any (v1 v2 v3 : Value) (h : Hp) (xx : Int) (w : World) (i1 : IR w v1 h.words) (i2 : IR w v2 h.roots) (i3 : IR w v3 h.kept) (h1 : h.words.length ≤ 1000000000000000) (h2 : h.roots.length ≤ 1000000000000000) (h3 : h.kept.length ≤ 1000000000000000) (hx : In64 xx) :
    Calls Try.prog 5 #[.agg #[v1, v2, .int .i64 h.old, .int .i64 h.eden, .int .i64 h.surv, .bool h.flip, .int .i64 h.hash, v3], .int .i64 xx] w fun e w' => e = .returned (.bool true) ∧ Below w.heap.size w w' := by
  have hb0 := bel_one w (.cells #[v1, v2, .int .i64 h.old, .int .i64 h.eden, .int .i64 h.surv, .bool h.flip, .int .i64 h.hash, v3] 24)
  have X0 := Bx.new w v1 v2 v3 h 24
  have SZ := szHeap_any v1 v2 v3 h _ (i1.later hb0) (i2.later hb0) (i3.later hb0) h1 h2 h3
  go_enter Try.func5, Try.ntmps5
  go_wp2_with fail
  refine SZ.mono ?_
  rintro e w1 ⟨⟨y, rfl, hy⟩, hb1⟩
  have hbw1 := bel_after hb0 hb1
  have X1 := X0.later hb1
  obtain ⟨a0, a1, a2, a3, a4, a5, a6, a7⟩ := id X1
  clear SZ X0
  by_cases hn : y < 0
  · go_wp2
    go_ret
    exact ⟨rfl, hbw1⟩
  obtain ⟨l1, l2, l3⟩ := hy.out (by omega)
  have TH := fun W hb => toHeap_any v1 v2 v3 h W (i1.later hb) (i2.later hb) (i3.later hb) (by omega) (by omega) (by omega)
  have SP := fun v W hv => specReferrers_o v h xx W hv (by omega) (by omega) hx
  have IM := fun v W hv => implReferrers_c v h xx W hv (by omega) (by omega)
  have EQ := fun v u W hv hu => eqHeap_any v u h W hv hu (by omega) (by omega) (by omega)
  have MH := fun v1 v2 v3 W o1 o2 o3 i1 i2 i3 d1 d2 d3 => markHeap_any v1 v2 v3 h 1 W o1 o2 o3 i1 i2 i3 d1 d2 d3 (by omega) (by omega) (by omega) (by omega) (by omega)
  have obs := rf_short h xx
  have hz : ¬ (1 : Int) + h.words.length + h.roots.length + h.kept.length < 0 := by omega
  have obs' : (ints (rfC h xx)).length ≤ 3200 := by rw [ints_length]; exact obs
  have IM' := IM
  simp only [show (rfC h xx).length = (ints (rfC h xx)).length from (ints_length _).symm] at IM
  clear obs IM'
  generalize ints (rfC h xx) = ob at *
  have EL := fun v u W hv hu => eqInt64S_any v u ob ob W hv hu (by omega) (by omega)
  simp only [decide_true] at EL
  have MI := fun v W hv hc => markInt64S_any v ob.length 1 W hv hc (by omega) (by omega)
  have HI := fun v W hv => heldInt64S_any v ob.length 1 W hv (by omega) (by omega)
  generalize hZ : (1 : Int) + h.words.length + h.roots.length + h.kept.length = zz at *
  clear hZ
  clear h1 h2 h3 l1 l2 l3 hy
  go_wp2_with fail
  refine (TH _ hbw1).mono ?_
  rintro e w2 ⟨⟨p, rfl, hp⟩, hb2⟩
  have hbw2 := bel_after hbw1 hb2
  have X2 := X1.later hb2
  go_wp2_with fail
  refine (SP _ _ hp.hr).mono ?_
  rintro e w3 ⟨⟨sv, rfl, hsv⟩, hb3⟩
  have hbw3 := bel_after hbw2 hb3
  have X3 := X2.later hb3
  clear a0 a1 a2 a3 a4 a5 a6 a7
  obtain ⟨a0, a1, a2, a3, a4, a5, a6, a7⟩ := id X3
  clear X1 X2 hp
  go_wp2_with fail
  refine (TH _ hbw3).mono ?_
  rintro e w4 ⟨⟨q, rfl, hq⟩, hb4⟩
  have hbw4 := bel_after hbw3 hb4
  have X4 := X3.later hb4
  obtain ⟨qo1, qc1, qo2, qc2, qo3, qc3, rfl, ⟨qs1, qs2, qs3⟩, ⟨qr1, qr2, qr3⟩, ⟨qB1, qB2, qB3⟩, qd1, qd2, qd3⟩ := hq.out
  have qh1 := qs1.row
  have qh2 := qs2.row
  have qh3 := qs3.row
  have lt3 : w.heap.size < w3.heap.size := World.block_lt_of_cell? _ _ X3.c0
  have ge4 := hb4.size
  have al := bel_one w4 (.cells #[(.slice qo1 h.words.length qc1), (.slice qo2 h.roots.length qc2), .int .i64 h.old, .int .i64 h.eden, .int .i64 h.surv, .bool h.flip, .int .i64 h.hash, (.slice qo3 h.kept.length qc3)] 26)
  have Y5 := Bx.new w4 (.slice qo1 h.words.length qc1) (.slice qo2 h.roots.length qc2) (.slice qo3 h.kept.length qc3) h 26
  have hq5 := hq.hr.later al
  have hbw5 := bel_after hbw4 al
  have X5 := X4.later al
  clear X3 X4 hq a0 a1 a2 a3 a4 a5 a6 a7
  go_wp2_with fail
  refine (IM _ _ hq5).mono ?_
  rintro e w6 ⟨⟨gv, rfl, hgo⟩, hb6⟩
  have hbw6 := bel_after hbw5 hb6
  obtain ⟨a0, a1, a2, a3, a4, a5, a6, a7⟩ := X5.later hb6
  obtain ⟨b0, b1, b2, b3, b4, b5, b6, b7⟩ := Y5.later hb6
  have hq6 := hq5.later hb6
  have sv6 := hsv.later (bel_after (bel_after hb4 al) hb6)
  have gv6 := IR_of_owns hgo
  obtain ⟨go, gc, rfl, hgc⟩ : ∃ go gc, gv = .slice go ob.length gc ∧ ob.length ≤ gc := by obtain ⟨a, c, e, f⟩ := IRs gv6; exact ⟨a, c, e, f⟩
  obtain ⟨so, sc, rfl, -⟩ : ∃ so sc, sv = .slice so ob.length sc ∧ True := by obtain ⟨a, c, e, f⟩ := IRs sv6; exact ⟨a, c, e, trivial⟩
  have X6 := X5.later hb6
  have Y6 := Y5.later hb6
  clear a0 a1 a2 a3 a4 a5 a6 a7 b0 b1 b2 b3 b4 b5 b6 b7
  clear X5 Y5 hq5 SP
  go_wp2_with fail
  refine (EL _ _ _ gv6 sv6).mono ?_
  rintro e wA ⟨rfl, hbA⟩
  have hbwA := bel_after hbw6 hbA
  obtain ⟨a0, a1, a2, a3, a4, a5, a6, a7⟩ := id (X6.later hbA)
  obtain ⟨b0, b1, b2, b3, b4, b5, b6, b7⟩ := id (Y6.later hbA)
  have XA := X6.later hbA
  have YA := Y6.later hbA
  have hqA := hq6.later hbA
  have hgA := own_later hgo hbA
  clear X6 Y6 hq6 gv6 sv6
  go_wp2_with fail
  go_region_held3 (fun w' => Below wA.heap.size wA w' ∧ (w'.cell? ⟨w.heap.size, 0, none⟩ = some v1 ∧ w'.cell? ⟨w.heap.size, 1, none⟩ = some v2 ∧ w'.cell? ⟨w.heap.size, 2, none⟩ = some (.int .i64 h.old) ∧ w'.cell? ⟨w.heap.size, 3, none⟩ = some (.int .i64 h.eden) ∧ w'.cell? ⟨w.heap.size, 4, none⟩ = some (.int .i64 h.surv) ∧ w'.cell? ⟨w.heap.size, 5, none⟩ = some (.bool h.flip) ∧ w'.cell? ⟨w.heap.size, 6, none⟩ = some (.int .i64 h.hash) ∧ w'.cell? ⟨w.heap.size, 7, none⟩ = some v3) ∧ (w'.cell? ⟨w4.heap.size, 0, none⟩ = some (.slice qo1 h.words.length qc1) ∧ w'.cell? ⟨w4.heap.size, 1, none⟩ = some (.slice qo2 h.roots.length qc2) ∧ w'.cell? ⟨w4.heap.size, 2, none⟩ = some (.int .i64 h.old) ∧ w'.cell? ⟨w4.heap.size, 3, none⟩ = some (.int .i64 h.eden) ∧ w'.cell? ⟨w4.heap.size, 4, none⟩ = some (.int .i64 h.surv) ∧ w'.cell? ⟨w4.heap.size, 5, none⟩ = some (.bool h.flip) ∧ w'.cell? ⟨w4.heap.size, 6, none⟩ = some (.int .i64 h.hash) ∧ w'.cell? ⟨w4.heap.size, 7, none⟩ = some (.slice qo3 h.kept.length qc3)))
    (first | assumption | exact ⟨(Below.refl _ _).drew, ⟨a0, a1, a2, a3, a4, a5, a6, a7⟩, b0, b1, b2, b3, b4, b5, b6, b7⟩ | exact keep16 (by assumption) (by assumption))
    (first
      | (go_at_call 8; refine (TH _ (bel_after hbwA (And.left (by assumption)))).mono ?_; rintro x w7 ⟨⟨u, rfl, hu⟩, hb7⟩)
      | (go_at_call 10; refine (EQ _ _ _ (hqA.later (And.left (by assumption))) hu.hr).mono ?_; rintro x w8 ⟨rfl, hb8⟩))
  have hbR : Below wA.heap.size wA w8 := bel_after (bel_after (Below.refl _ _).drew hb7) hb8
  have hbw8 := bel_after hbwA hbR
  have X8 := XA.later hbR
  have Y8 := YA.later hbR
  have c4to8 : Below w4.heap.size w4 w8 := bel_after (bel_after (bel_after al hb6) hbA) hbR
  have M := MH _ _ _ w8 (qs1.later c4to8) (qs2.later c4to8) (qs3.later c4to8) (qr1.later c4to8) (qr2.later c4to8) (qr3.later c4to8) qd1 qd2 qd3
  have hg8 := own_later hgA hbR
  have sv8 := hsv.later (bel_after hb4 c4to8)
  have s48 := c4to8.size
  have slt := sv8.lt
  have svw3 := hsv.lt
  clear a0 a1 a2 a3 a4 a5 a6 a7 b0 b1 b2 b3 b4 b5 b6 b7
  obtain ⟨b0, b1, b2, b3, b4, b5, b6, b7⟩ := id Y8
  have lt48 : w4.heap.size < w8.heap.size := World.block_lt_of_cell? _ _ b0
  clear XA YA hqA hgA hgo
  go_wp2_with fail
  refine M.mono ?_
  rintro e w9 ⟨rfl, T, -, -, -⟩
  have hbT : Below w3.heap.size w8 w9 := T.below (by omega) qB1 qB2 qB3
  have X9 := X8.below (hbT.mono (by omega))
  have hi := T.high (B := w4.heap.size) qh1 qh2 qh3
  have hg9 : w9.ownsRow (w4.alloc (.cells #[(.slice qo1 h.words.length qc1), (.slice qo2 h.roots.length qc2), .int .i64 h.old, .int .i64 h.eden, .int .i64 h.surv, .bool h.flip, .int .i64 h.hash, (.slice qo3 h.kept.length qc3)] 26)).heap.size 2 1 (.slice go ob.length gc) ob.length (icells ob) := by
    obtain ⟨hl', h'⟩ := hg8
    refine ⟨hl', ?_⟩
    rcases h' with h' | ⟨g, cap, cur, hv, hB, hh, z1, z2, z3, z4⟩
    · exact .inl h'
    · refine .inr ⟨g, cap, cur, hv, hB, ?_, z1, z2, z3, z4⟩
      have hlt : g < w8.heap.size := by
        rcases Nat.lt_or_ge g w8.heap.size with q | q
        · exact q
        · rw [Array.getElem?_eq_none q] at hh; cases hh
      rw [hi g (by simp at hB; omega) hlt]
      exact hh
  have sv9 : IR w9 (.slice so ob.length sc) ob := sv8.keep (fun a n c e hn => hbT.block _ (svw3 a n c e hn))
  have hbw9 : Below w.heap.size w w9 := hbw8.trans (hbT.mono (by omega))
  have gv9 := IR_of_owns hg9
  have s89 := T.size
  clear b0 b1 b2 b3 b4 b5 b6 b7 X8 Y8 hg8 sv8 M T hi
  go_wp2_with fail
  refine (EL _ _ _ gv9 sv9).mono ?_
  rintro e w10 ⟨rfl, hb10⟩
  have hbw10 := bel_after hbw9 hb10
  have X10 := X9.later hb10
  have hg10 := own_later hg9 hb10
  have sv10 := sv9.later hb10
  have OG := OS_of_owns hg10
  have rg := row_of_owns hg10
  have s10 := hb10.size
  clear X9 hg9 sv9 gv9
  go_wp2_with fail
  refine (MI _ _ OG ⟨_, _, rfl, hgc⟩).mono ?_
  rintro e w11 ⟨rfl, g11, m11⟩
  have hbT2 : Below w4.heap.size w10 w11 := Below.grown (Below.refl _ _) g11 (by omega) (fun b e => by have := rg b e; simp at this; omega)
  have X11 := X10.below (hbT2.mono (by omega))
  have sv11 : IR w11 (.slice so ob.length sc) ob := sv10.keep (fun a n c e hn => hbT2.block _ (by have := svw3 a n c e hn; omega))
  have hbw11 : Below w.heap.size w w11 := hbw10.trans (hbT2.mono (by omega))
  clear X10 sv10 hg10 OG
  go_wp2_with fail
  refine (HI _ _ m11).mono ?_
  rintro e w12 ⟨rfl, hb12⟩
  have hbw12 := bel_after hbw11 hb12
  have X12 := X11.later hb12
  have m12 := m11.later hb12
  have sv12 := sv11.later hb12
  have tz : ((1 : Int) + ob.length != 1 + ob.length) = false := by simp
  have tn : ¬ (1 : Int) + ob.length < 0 := by omega
  obtain ⟨a0, a1, a2, a3, a4, a5, a6, a7⟩ := id X12
  clear X11 m11 sv11
  go_wp2_with fail
  refine (TH _ hbw12).mono ?_
  rintro e w13 ⟨⟨r, rfl, hr⟩, hb13⟩
  go_wp2_with fail
  refine (IM _ _ hr.hr).mono ?_
  rintro e w14 ⟨⟨hv2, rfl, ho2⟩, hb14⟩
  have hb134 := bel_after hb13 hb14
  have hbw14 := bel_after hbw12 hb134
  have m14 := m12.later hb134
  have sv14 := sv12.later hb134
  go_wp2_with fail
  refine (EL _ _ _ (IR_of_owns ho2) sv14).mono ?_
  rintro e w15 ⟨rfl, hb15⟩
  go_wp2_with fail
  refine (HI _ _ (m14.later hb15)).mono ?_
  rintro e w16 ⟨rfl, hb16⟩
  go_wp2
  go_ret
  exact ⟨rfl, bel_after (bel_after hbw14 hb15) hb16⟩

end Go.Proofs.Ytaldfkfjmgkjbaa
