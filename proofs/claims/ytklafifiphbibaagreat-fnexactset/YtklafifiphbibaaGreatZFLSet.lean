/- The walk of the law on Set. -/
import Derived.Test.YtklafifiphbibaaGreatZU0
import Derived.Test.YtklafifiphbibaaGreatZMLawB
import Derived.Test.YtklafifiphbibaaGreatZFISet
import Derived.Test.YtklafifiphbibaaGreatZFSSet
namespace Go.Proofs.YtklafifiphbibaaGreat
open Go.RowKit

theorem put_bounds {h : Hp} (x i y : Int) (k : h.words.length ≤ 10000000 ∧ h.roots.length ≤ 10000000 ∧ h.kept.length ≤ 10000000) : (putC h x i y).words.length ≤ 1000000000 ∧ (putC h x i y).roots.length ≤ 1000000000 ∧ (putC h x i y).kept.length ≤ 1000000000 := by
  unfold putC
  split
  · refine ⟨by unfold putH; simp; omega, by show h.roots.length ≤ _; omega, ?_⟩
    show (keptOf _ _).length ≤ _
    unfold keptOf
    rw [ints_length]
    have := List.length_filter_le (fun b => decide (b < 2000) && hasY (h.words.set ((x / 2).toNat + 4 + i.toNat) y) b) (obC h)
    have := ob_short h
    omega
  · simp [zeroH]

set_option maxRecDepth 100000 in
set_option maxHeartbeats 6400000 in
theorem lawSet_any (v1 v2 v3 : Value) (h : Hp) (xa : Int) (xi : Int) (xv : Int) (w : World) (i1 : IR w v1 h.words) (i2 : IR w v2 h.roots) (i3 : IR w v3 h.kept) (h1 : h.words.length ≤ 1000000000000000) (h2 : h.roots.length ≤ 1000000000000000) (h3 : h.kept.length ≤ 1000000000000000) (pxa : In64 xa) (pxv : In64 xv) :
    Calls Tryz.prog 4 #[.agg #[v1, v2, .int .i64 h.old, .int .i64 h.eden, .int .i64 h.surv, .bool h.flip, .int .i64 h.hash, v3], .int .i64 xa, .int .i64 xi, .int .i64 xv] w fun e w' => e = .returned (.bool true) ∧ Below w.heap.size w w' := by
  have hb0 := bel_one w (.cells #[v1, v2, .int .i64 h.old, .int .i64 h.eden, .int .i64 h.surv, .bool h.flip, .int .i64 h.hash, v3] 36)
  have X0 := Bx.new w v1 v2 v3 h 36
  have SZ := szHeap_any v1 v2 v3 h _ (i1.later hb0) (i2.later hb0) (i3.later hb0) h1 h2 h3
  go_enter Tryz.func4, Tryz.ntmps4
  go_wp2_with fail
  refine SZ.mono ?_
  rintro e w1 ⟨⟨y, rfl, hy⟩, hb1⟩
  have hbw1 := bel_after hb0 hb1
  have X1 := X0.later hb1
  obtain ⟨a0, a1, a2, a3, a4, a5, a6, a7⟩ := id X1
  clear SZ X0
  by_cases hn : y < 0
  · go_wp2
    go_ret
    exact ⟨rfl, hbw1⟩
  obtain ⟨l1, l2, l3⟩ := hy.out (by omega)
  have TH := fun W hb => toHeap_any v1 v2 v3 h W (i1.later hb) (i2.later hb) (i3.later hb) (by omega) (by omega) (by omega)
  have SP := fun v W hv => specSet_c v h xa xi xv W hv (by omega) (by omega) (by omega) pxa pxv
  have IM := fun v W hv => implSet_c v h xa xi xv W hv (by omega) (by omega) (by omega)
  have EQ := fun v u W hv hu => eqHeap_any v u h W hv hu (by omega) (by omega) (by omega)
  have MH := fun v1 v2 v3 W o1 o2 o3 i1 i2 i3 d1 d2 d3 => markHeap_any v1 v2 v3 h 1 W o1 o2 o3 i1 i2 i3 d1 d2 d3 (by omega) (by omega) (by omega) (by omega) (by omega)
  obtain ⟨rb1, rb2, rb3⟩ := put_bounds (h := h) xa xi xv ⟨by omega, by omega, by omega⟩
  generalize putC h xa xi xv = r at *
  generalize putB h xa xi xv = rb at *
  have ER := fun v u W hv hu => eqHeap_any v u r W hv hu (by omega) (by omega) (by omega)
  have MR := fun v1 v2 v3 W o1 o2 o3 i1 i2 i3 d1 d2 d3 => markHeap_any v1 v2 v3 r 1 W o1 o2 o3 i1 i2 i3 d1 d2 d3 (by omega) (by omega) (by omega) (by omega) (by omega)
  have HD := fun v1 v2 v3 W m1 m2 m3 => heldHeap_any v1 v2 v3 r 1 W m1 m2 m3 (by omega) (by omega) (by omega) (by omega) (by omega)
  have hz : ¬ (1 : Int) + h.words.length + h.roots.length + h.kept.length < 0 := by omega
  have rz : ¬ (1 : Int) + r.words.length + r.roots.length + r.kept.length < 0 := by omega
  generalize hZ : (1 : Int) + h.words.length + h.roots.length + h.kept.length = zz at *
  clear hZ
  generalize hZ : (1 : Int) + r.words.length + r.roots.length + r.kept.length = zr at *
  clear hZ
  have tz : (zr != zr) = false := by simp
  have tb : (rb != rb) = false := by simp
  clear h1 h2 h3 l1 l2 l3 hy rb1 rb2 rb3
  go_wp2_with fail
  refine (TH _ hbw1).mono ?_
  rintro e w2 ⟨⟨p, rfl, hp⟩, hb2⟩
  have hbw2 := bel_after hbw1 hb2
  have X2 := X1.later hb2
  go_wp2_with fail
  refine (SP _ _ hp.hr).mono ?_
  rintro e w3 ⟨⟨sv, rfl, hsv⟩, hb3⟩
  obtain ⟨so1, sc1, so2, sc2, so3, sc3, rfl, -⟩ := hsv.out
  have hs3 := hsv.hr
  have alS := bel_one w3 (.cells #[.slice so1 r.words.length sc1, .slice so2 r.roots.length sc2, .int .i64 r.old, .int .i64 r.eden, .int .i64 r.surv, .bool r.flip, .int .i64 r.hash, .slice so3 r.kept.length sc3] 26)
  have Z3 := Bx.new w3 (.slice so1 r.words.length sc1) (.slice so2 r.roots.length sc2) (.slice so3 r.kept.length sc3) r 26
  have hb3' := bel_after hb3 alS
  have hbw3 := bel_after hbw2 hb3'
  have X3 := X2.later hb3'
  have hsA := hs3.later alS
  have szA : (w3.alloc (.cells #[.slice so1 r.words.length sc1, .slice so2 r.roots.length sc2, .int .i64 r.old, .int .i64 r.eden, .int .i64 r.surv, .bool r.flip, .int .i64 r.hash, .slice so3 r.kept.length sc3] 26)).heap.size = w3.heap.size + 1 := by simp
  have lt3 : w.heap.size < w3.heap.size := World.block_lt_of_cell? _ _ (X2.later hb3).c0
  clear a0 a1 a2 a3 a4 a5 a6 a7 X1 X2 hp hsv SP
  obtain ⟨a0, a1, a2, a3, a4, a5, a6, a7⟩ := id X3
  go_wp2_with fail
  refine (TH _ hbw3).mono ?_
  rintro e w4 ⟨⟨q, rfl, hq⟩, hb4⟩
  have hbw4 := bel_after hbw3 hb4
  have X4 := X3.later hb4
  obtain ⟨qo1, qc1, qo2, qc2, qo3, qc3, rfl, ⟨qs1, qs2, qs3⟩, ⟨qr1, qr2, qr3⟩, ⟨qB1, qB2, qB3⟩, qd1, qd2, qd3⟩ := hq.out
  rw [szA] at qB1 qB2 qB3
  have qh1 := qs1.row
  have qh2 := qs2.row
  have qh3 := qs3.row
  have ge4 : w3.heap.size + 1 ≤ w4.heap.size := by have := hb4.size; rw [szA] at this; exact this
  have al := bel_one w4 (.cells #[.slice qo1 h.words.length qc1, .slice qo2 h.roots.length qc2, .int .i64 h.old, .int .i64 h.eden, .int .i64 h.surv, .bool h.flip, .int .i64 h.hash, .slice qo3 h.kept.length qc3] 26)
  have Y5 := Bx.new w4 (.slice qo1 h.words.length qc1) (.slice qo2 h.roots.length qc2) (.slice qo3 h.kept.length qc3) h 26
  have hq5 := hq.hr.later al
  have hbw5 := bel_after hbw4 al
  have X5 := X4.later al
  have B34 := bel_after hb4 al
  have hs5 := hsA.later B34
  have Z5 := Z3.later B34
  clear X3 X4 hq a0 a1 a2 a3 a4 a5 a6 a7 Z3 hsA
  go_wp2_with fail
  refine (IM _ _ hq5).mono ?_
  rintro e w5 ⟨⟨gv, rfl, hgo⟩, hb5⟩
  obtain ⟨go1, gc1, go2, gc2, go3, gc3, rfl, ⟨gs1, gs2, gs3⟩, ⟨gr1, gr2, gr3⟩, ⟨gB1, gB2, gB3⟩, gd1, gd2, gd3⟩ := hgo.out
  have s4a : (w4.alloc (.cells #[.slice qo1 h.words.length qc1, .slice qo2 h.roots.length qc2, .int .i64 h.old, .int .i64 h.eden, .int .i64 h.surv, .bool h.flip, .int .i64 h.hash, .slice qo3 h.kept.length qc3] 26)).heap.size = w4.heap.size + 1 := by simp
  rw [s4a] at gB1 gB2 gB3
  have gh1 := gs1.row
  have gh2 := gs2.row
  have gh3 := gs3.row
  have alG := bel_one w5 (.cells #[.slice go1 r.words.length gc1, .slice go2 r.roots.length gc2, .int .i64 r.old, .int .i64 r.eden, .int .i64 r.surv, .bool r.flip, .int .i64 r.hash, .slice go3 r.kept.length gc3] 26)
  have U5 := Bx.new w5 (.slice go1 r.words.length gc1) (.slice go2 r.roots.length gc2) (.slice go3 r.kept.length gc3) r 26
  have hb5' := bel_after hb5 alG
  have ge5 : w4.heap.size + 1 ≤ w5.heap.size := by have := hb5.size; rw [s4a] at this; exact this
  have hbw6 := bel_after hbw5 hb5'
  have X6 := X5.later hb5'
  have Y6 := Y5.later hb5'
  have Z6 := Z5.later hb5'
  have hq6 := hq5.later hb5'
  have hs6 := hs5.later hb5'
  have hg6 := hgo.later alG
  have ltz : w3.heap.size < w5.heap.size := by omega
  clear X5 Y5 Z5 hq5 hs5 s4a
  obtain ⟨z0, z1, z2, z3, z4, z5, z6, z7⟩ := id Z6
  go_wp2_with fail
  refine (ER _ _ _ hg6.hr hs6).mono ?_
  rintro e wA ⟨rfl, hbA⟩
  have hbwA := bel_after hbw6 hbA
  have XA := X6.later hbA
  have YA := Y6.later hbA
  have ZA := Z6.later hbA
  have UA := U5.later hbA
  have hqA := hq6.later hbA
  have hsA := hs6.later hbA
  have hgA := hg6.later hbA
  have B4A : Below w4.heap.size w4 wA := bel_after al (bel_after hb5' hbA)
  have B3A : Below w3.heap.size w3 wA := bel_after alS (bel_after hb4 B4A)
  have B5A : Below w5.heap.size w5 wA := bel_after alG hbA
  clear X6 Y6 Z6 U5 hq6 hs6 hg6 z0 z1 z2 z3 z4 z5 z6 z7
  obtain ⟨a0, a1, a2, a3, a4, a5, a6, a7⟩ := id XA
  obtain ⟨b0, b1, b2, b3, b4, b5, b6, b7⟩ := id YA
  go_wp2_with fail
  go_region_held3 (fun w' => Below wA.heap.size wA w' ∧ (w'.cell? ⟨w.heap.size, 0, none⟩ = some v1 ∧ w'.cell? ⟨w.heap.size, 1, none⟩ = some v2 ∧ w'.cell? ⟨w.heap.size, 2, none⟩ = some (.int .i64 h.old) ∧ w'.cell? ⟨w.heap.size, 3, none⟩ = some (.int .i64 h.eden) ∧ w'.cell? ⟨w.heap.size, 4, none⟩ = some (.int .i64 h.surv) ∧ w'.cell? ⟨w.heap.size, 5, none⟩ = some (.bool h.flip) ∧ w'.cell? ⟨w.heap.size, 6, none⟩ = some (.int .i64 h.hash) ∧ w'.cell? ⟨w.heap.size, 7, none⟩ = some v3) ∧ (w'.cell? ⟨w4.heap.size, 0, none⟩ = some (.slice qo1 h.words.length qc1) ∧ w'.cell? ⟨w4.heap.size, 1, none⟩ = some (.slice qo2 h.roots.length qc2) ∧ w'.cell? ⟨w4.heap.size, 2, none⟩ = some (.int .i64 h.old) ∧ w'.cell? ⟨w4.heap.size, 3, none⟩ = some (.int .i64 h.eden) ∧ w'.cell? ⟨w4.heap.size, 4, none⟩ = some (.int .i64 h.surv) ∧ w'.cell? ⟨w4.heap.size, 5, none⟩ = some (.bool h.flip) ∧ w'.cell? ⟨w4.heap.size, 6, none⟩ = some (.int .i64 h.hash) ∧ w'.cell? ⟨w4.heap.size, 7, none⟩ = some (.slice qo3 h.kept.length qc3)))
    (first | assumption | exact ⟨(Below.refl _ _).drew, ⟨a0, a1, a2, a3, a4, a5, a6, a7⟩, b0, b1, b2, b3, b4, b5, b6, b7⟩ | exact keep16 (by assumption) (by assumption))
    (first
      | (go_at_call 16; refine (TH _ (bel_after hbwA (And.left (by assumption)))).mono ?_; rintro x w7 ⟨⟨u, rfl, hu⟩, hb7⟩)
      | (go_at_call 17; refine (EQ _ _ _ (hqA.later (And.left (by assumption))) hu.hr).mono ?_; rintro x w8 ⟨rfl, hb8⟩))
  have hbR : Below wA.heap.size wA w8 := bel_after (bel_after (Below.refl _ _).drew hb7) hb8
  have hbw8 := bel_after hbwA hbR
  have X8 := XA.later hbR
  have Y8 := YA.later hbR
  have Z8 := ZA.later hbR
  have U8 := UA.later hbR
  have hg8 := hgA.later hbR
  have c4 := bel_after B4A hbR
  have c3 := bel_after B3A hbR
  have c5 := bel_after B5A hbR
  have M := MH _ _ _ w8 (qs1.later c4) (qs2.later c4) (qs3.later c4) (qr1.later c4) (qr2.later c4) (qr3.later c4) qd1 qd2 qd3
  clear a0 a1 a2 a3 a4 a5 a6 a7 b0 b1 b2 b3 b4 b5 b6 b7 XA YA ZA UA hqA hgA hsA qs1 qs2 qs3 qr1 qr2 qr3 qd1 qd2 qd3
  obtain ⟨b0, b1, b2, b3, b4, b5, b6, b7⟩ := id Y8
  have lt58 : w5.heap.size < w8.heap.size := World.block_lt_of_cell? _ _ U8.c0
  have lt48 : w4.heap.size < w8.heap.size := by omega
  go_wp2_with fail
  refine M.mono ?_
  rintro e w9 ⟨rfl, T, -, -, -⟩
  have hbT : Below (w3.heap.size + 1) w8 w9 := T.below (by omega) qB1 qB2 qB3
  have X9 := X8.below (hbT.mono (by omega))
  have Z9 := Z8.below hbT
  have hi := T.high (B := w4.heap.size) qh1 qh2 qh3
  have U9 := U8.keep (hi _ (by omega) lt58)
  have hg9 := hg8.keep (fun b hb hl => hi b (by simp at hb; omega) hl)
  have d3 : Below w3.heap.size w3 w9 := c3.trans (hbT.mono (by omega))
  have hs9 := hs3.later d3
  have hbw9 : Below w.heap.size w w9 := hbw8.trans (hbT.mono (by omega))
  have s89 := T.size
  have k5 : ∀ b, w4.heap.size ≤ b → b < w5.heap.size → w9.heap[b]? = w5.heap[b]? := fun b h1 h2 => (hi b h1 (by omega)).trans (c5.block b h2)
  clear b0 b1 b2 b3 b4 b5 b6 b7 X8 Y8 Z8 U8 hg8 M T hi c3 c4 c5
  obtain ⟨z0, z1, z2, z3, z4, z5, z6, z7⟩ := id Z9
  obtain ⟨u0, u1, u2, u3, u4, u5, u6, u7⟩ := id U9
  have ltz9 : w3.heap.size < w9.heap.size := by omega
  have ltu9 : w5.heap.size < w9.heap.size := by omega
  go_wp2_with fail
  refine (ER _ _ _ hg9.hr hs9).mono ?_
  rintro e wB ⟨rfl, hbB⟩
  have hbwB := bel_after hbw9 hbB
  have XB := X9.later hbB
  have ZB := Z9.later hbB
  have UB := U9.later hbB
  have dB := bel_after d3 hbB
  have g1B := (OS.keep' gs1 k5 (fun b q => ⟨by have := gB1 b q; omega, gh1 b q⟩)).later hbB
  have g2B := (OS.keep' gs2 k5 (fun b q => ⟨by have := gB2 b q; omega, gh2 b q⟩)).later hbB
  have g3B := (OS.keep' gs3 k5 (fun b q => ⟨by have := gB3 b q; omega, gh3 b q⟩)).later hbB
  have e1B := (IR.keepR gr1 k5 (fun b q => ⟨by have := gB1 b q; omega, gh1 b q⟩)).later hbB
  have e2B := (IR.keepR gr2 k5 (fun b q => ⟨by have := gB2 b q; omega, gh2 b q⟩)).later hbB
  have e3B := (IR.keepR gr3 k5 (fun b q => ⟨by have := gB3 b q; omega, gh3 b q⟩)).later hbB
  have M2 := MR _ _ _ wB g1B g2B g3B e1B e2B e3B gd1 gd2 gd3
  have s9B := hbB.size
  clear X9 Z9 U9 hg9 hs9 z0 z1 z2 z3 z4 z5 z6 z7 u0 u1 u2 u3 u4 u5 u6 u7 gs1 gs2 gs3 gr1 gr2 gr3 k5 g1B g2B g3B e1B e2B e3B
  obtain ⟨u0, u1, u2, u3, u4, u5, u6, u7⟩ := id UB
  go_wp2_with fail
  refine M2.mono ?_
  rintro e wC ⟨rfl, T2, m1, m2, m3⟩
  have hbT2 : Below (w4.heap.size + 1) wB wC := T2.below (by omega) gB1 gB2 gB3
  have XC := XB.below (hbT2.mono (by omega))
  have ZC := ZB.below (hbT2.mono (by omega))
  have UC := UB.keep (T2.high (B := w5.heap.size) gh1 gh2 gh3 _ (by omega) (by omega))
  have dC : Below w3.heap.size w3 wC := dB.trans (hbT2.mono (by omega))
  have hbwC : Below w.heap.size w wC := hbwB.trans (hbT2.mono (by omega))
  have sBC := T2.size
  clear XB ZB UB u0 u1 u2 u3 u4 u5 u6 u7 M2 T2
  obtain ⟨u0, u1, u2, u3, u4, u5, u6, u7⟩ := id UC
  have ltuC : w5.heap.size < wC.heap.size := by omega
  go_wp2_with fail
  refine (HD _ _ _ _ m1 m2 m3).mono ?_
  rintro e wD ⟨rfl, hbD⟩
  have hbwD := bel_after hbwC hbD
  have XD := XC.later hbD
  have ZD := ZC.later hbD
  have UD := UC.later hbD
  have n1 := m1.later hbD
  have n2 := m2.later hbD
  have n3 := m3.later hbD
  have dD := bel_after dC hbD
  clear XC ZC UC m1 m2 m3 u0 u1 u2 u3 u4 u5 u6 u7
  obtain ⟨a0, a1, a2, a3, a4, a5, a6, a7⟩ := id XD
  have sCD := hbD.size
  go_wp2_with fail
  refine (TH _ hbwD).mono ?_
  rintro e wE ⟨⟨rv, rfl, hr⟩, hbE⟩
  go_wp2_with fail
  refine (IM _ _ hr.hr).mono ?_
  rintro e wF ⟨⟨kv, rfl, hk⟩, hbF⟩
  obtain ⟨ko1, kc1, ko2, kc2, ko3, kc3, rfl, -⟩ := hk.out
  have alK := bel_one wF (.cells #[.slice ko1 r.words.length kc1, .slice ko2 r.roots.length kc2, .int .i64 r.old, .int .i64 r.eden, .int .i64 r.surv, .bool r.flip, .int .i64 r.hash, .slice ko3 r.kept.length kc3] 26)
  have hbDF := bel_after hbE hbF
  have hbDK := bel_after hbDF alK
  have ZF := ZD.later hbDK
  have UF := UD.later hbDK
  have p1 := n1.later hbDK
  have p2 := n2.later hbDK
  have p3 := n3.later hbDK
  have hkK := hk.hr.later alK
  have hsK := hs3.later (bel_after dD hbDK)
  have hbwK := bel_after hbwD hbDK
  have sDF := hbDF.size
  clear XD ZD UD n1 n2 n3 a0 a1 a2 a3 a4 a5 a6 a7 hr hk
  obtain ⟨z0, z1, z2, z3, z4, z5, z6, z7⟩ := id ZF
  have ltzF : w3.heap.size < wF.heap.size := by omega
  have ltuF : w5.heap.size < wF.heap.size := by omega
  go_wp2_with fail
  refine (ER _ _ _ hkK hsK).mono ?_
  rintro e wG ⟨rfl, hbG⟩
  have hbwG := bel_after hbwK hbG
  obtain ⟨u0, u1, u2, u3, u4, u5, u6, u7⟩ := id (UF.later hbG)
  clear z0 z1 z2 z3 z4 z5 z6 z7
  go_wp2_with fail
  refine (HD _ _ _ _ (p1.later hbG) (p2.later hbG) (p3.later hbG)).mono ?_
  rintro e wH ⟨rfl, hbH⟩
  go_wp2
  go_ret
  exact ⟨rfl, bel_after hbwG hbH⟩

end Go.Proofs.YtklafifiphbibaaGreat
