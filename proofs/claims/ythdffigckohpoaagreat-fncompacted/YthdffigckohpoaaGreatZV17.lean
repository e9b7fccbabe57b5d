
import Derived.Test.YthdffigckohpoaaGreatZV16
import Derived.Test.YthdffigckohpoaaGreatZV6
import Derived.Test.YthdffigckohpoaaGreatZV15
import Derived.Test.YthdffigckohpoaaGreatZV7
import Derived.Test.YthdffigckohpoaaGreatZV5
import Derived.Test.YthdffigckohpoaaGreatZCSpec
import Derived.Test.YthdffigckohpoaaGreatZV0
/- Garbage of the program. -/
namespace Go.Proofs.YthdffigckohpoaaGreat
open Go.RowKit
set_option maxRecDepth 100000 in
set_option maxHeartbeats 3200000 in
theorem implGarbage_c (v : Value) (h : Hp) (w : World) (hv : HR w v h) (hro : h.roots.length <= 1000000000000) (hke : h.kept.length <= 1000000000000) :
  Calls Tryz.prog 11 #[v] w fun x w' => x = .returned (.int .i64 (gaC h)) /\ Below w.heap.size w w' := by
 obtain ⟨v1, v2, v3, rfl, i1, i2, i3⟩ := id hv
 cases hk : okC h
 ·have hb0 := bel_one w (.cells #[v1, v2, .int .i64 h.old, .int .i64 h.eden, .int .i64 h.surv, .bool h.flip, .int .i64 h.hash, v3] 26)
  have C := right_c _ h _ (hv.later hb0) hro hke
  rw [hk] at C
  have E : Hid (gaC h = -1) := (by unfold gaC; rw [hk]; rfl : gaC h = -1)
  obtain ⟨c0, c1, c2, c3, c4, c5, c6, c7⟩ := Bx.new w v1 v2 v3 h 26
  go_enter Tryz.func11, Tryz.ntmps11
  go_wp2_with fail
  refine C.mono ?_
  rintro x w1 ⟨⟨v', rfl, ho⟩, hb1⟩
  go_wp2
  go_ret
  exact ⟨wret_int E.out.symm, bel_after hb0 hb1⟩
 ·have R := c_right hk
  have HL : Hid (h.words.length = 3200) := R.1.1
  obtain ⟨b, o, c1, rfl, hc1, hW⟩ := i1.ws (by have := R.1.1; omega)
  rw [R.1.1] at hc1 hv ⊢
  have hb0 := bel_one w (.cells #[.slice (some ⟨b, o, none⟩) 3200 c1, v2, .int .i64 h.old, .int .i64 h.eden, .int .i64 h.surv, .bool h.flip, .int .i64 h.hash, v3] 26)
  have X0 := Bx.new w (.slice (some ⟨b, o, none⟩) 3200 c1) v2 v3 h 26
  have C := right_c _ h _ (hv.later hb0) hro hke
  rw [hk] at C
  have TF := fun W (hb : Below w.heap.size w W) => tourOf_any _ h (obC h) W (hv.later hb) R
  have OA := Obs.all R
  have OO := Obs.ord R
  have E : Hid (gaC h = szS h.words (obC h) - szS h.words (ordF h.words h.roots)) := (by unfold gaC; rw [hk]; rfl : gaC h = szS h.words (obC h) - szS h.words (ordF h.words h.roots))
  obtain ⟨ra1, ra2⟩ := szS_le (W := h.words) (l := obC h) fun a ha => (OA.2 a ha).2
  obtain ⟨rb1, rb2⟩ := szS_le (W := h.words) (l := ordF h.words h.roots) fun a ha => (OO.2 a ha).2
  have la := OA.1
  have lb := OO.1
  generalize obC h = l at *
  clear hk
  have hmx : Tryz.prog.follows .mixedOrders = true := by kernel_rfl
  obtain ⟨k0, k1, k2, k3, k4, k5, k6, k7⟩ := id X0
  go_enter Tryz.func11, Tryz.ntmps11
  go_wp2_with fail
  refine C.mono ?_
  rintro x w1 ⟨⟨lv, rfl, ho⟩, hb1⟩
  have hbw1 := bel_after hb0 hb1
  have X1 := X0.later hb1
  have IL := IR_of_owns' ho
  obtain ⟨oa, oc, rfl, -⟩ := intsI IL
  clear k0 k1 k2 k3 k4 k5 k6 k7 X0 C hb0 hb1 ho i1 i2 i3
  have hs0 : Below w1.heap.size w1 w1.drew := (Below.refl _ _).drew
  go_wp2_with fail
  refine Disk.z_plain 99 (fun W' => Below w1.heap.size w1 W') hmx hs0 (fun hs => ?_)
  clear hs0
  generalize w1.drew = wd at hs ⊢
  refine Disk.zt 0 12 (v := .pointer (some ⟨w.heap.size, 0, none⟩)) rfl rfl hs (fun W' hSw => (by
   obtain ⟨s0, s1, s2, s3, s4, s5, s6, s7⟩ := X1.later hSw
   go_simp; first | done | with_reducible rfl)) ?_
  simp only [zA, zB, zC]
  refine Disk.zt 1 13 (v := .slice (some ⟨b, o, none⟩) 3200 c1) rfl rfl hs (fun W' hSw => (by
   obtain ⟨s0, s1, s2, s3, s4, s5, s6, s7⟩ := X1.later hSw
   go_simp; first | done | with_reducible rfl)) ?_
  simp only [zA, zB, zC]
  refine Disk.zt 2 14 (v := .slice oa l.length oc) rfl rfl hs (fun W' hSw => (by
   obtain ⟨s0, s1, s2, s3, s4, s5, s6, s7⟩ := X1.later hSw
   go_simp; first | done | with_reducible rfl)) ?_
  simp only [zA, zB, zC]
  refine Disk.zt 4 16 (v := .pointer (some ⟨w.heap.size, 0, none⟩)) rfl rfl hs (fun W' hSw => (by
   obtain ⟨s0, s1, s2, s3, s4, s5, s6, s7⟩ := X1.later hSw
   go_simp; first | done | with_reducible rfl)) ?_
  simp only [zA, zB, zC]
  refine Disk.zt 5 17 (v := .slice (some ⟨b, o, none⟩) 3200 c1) rfl rfl hs (fun W' hSw => (by
   obtain ⟨s0, s1, s2, s3, s4, s5, s6, s7⟩ := X1.later hSw
   go_simp; first | done | with_reducible rfl)) ?_
  simp only [zA, zB, zC]
  refine Disk.zt 6 18 (v := .agg #[.slice (some ⟨b, o, none⟩) 3200 c1, v2, .int .i64 h.old, .int .i64 h.eden, .int .i64 h.surv, .bool h.flip, .int .i64 h.hash, v3]) rfl rfl hs (fun W' hSw => (by
   obtain ⟨s0, s1, s2, s3, s4, s5, s6, s7⟩ := X1.later hSw
   go_simp; first | done | with_reducible rfl)) ?_
  simp only [zA, zB, zC]
  refine Disk.zc 3 15 rfl rfl (f := 38) (args := #[.slice (some ⟨b, o, none⟩) 3200 c1, .slice oa l.length oc]) (w0 := wd) ?_
  refine (wordsTaken_any b o c1 h.words _ l wd ((hW.later hbw1).later hs) HL.out (IL.later hs) OA).mono ?_
  rintro e wq ⟨rfl, eq⟩
  obtain rfl := eq.symm
  clear eq
  refine ⟨_, rfl, .inr hs, ?_⟩
  simp only [zA, zB, zC]
  refine Disk.zc 7 19 rfl rfl (f := 39) (args := #[.agg #[.slice (some ⟨b, o, none⟩) 3200 c1, v2, .int .i64 h.old, .int .i64 h.eden, .int .i64 h.surv, .bool h.flip, .int .i64 h.hash, v3]]) (w0 := wd) ?_
  refine (TF wd (bel_after hbw1 hs)).mono ?_
  rintro e wt ⟨ov, M, n, rfl, hot, -, -, -, hbt⟩
  have hst := bel_after hs hbt
  refine ⟨_, rfl, .inr hst, ?_⟩
  simp only [zA, zB, zC]
  have IT := IR_of_owns' hot
  obtain ⟨ta, tc, rfl⟩ := own_shape hot
  clear hot
  refine Disk.z_run 8 20 (v := .slice ta (ordF h.words h.roots).length tc) rfl rfl (by kernel_rfl) (by rfl) (w' := wt) (by kernel_rfl) (.inr hst) ?_
  simp only [zA, zB, zC]
  refine Disk.zc 9 21 rfl rfl (f := 38) (args := #[.slice (some ⟨b, o, none⟩) 3200 c1, .slice ta (ordF h.words h.roots).length tc]) (w0 := wt) ?_
  refine (wordsTaken_any b o c1 h.words _ _ wt ((hW.later hbw1).later hst) HL.out IT OO).mono ?_
  rintro e wq ⟨rfl, eq⟩
  obtain rfl := eq.symm
  clear eq
  refine ⟨_, rfl, .inr hst, ?_⟩
  simp only [zA, zB, zC]
  have hbe := bel_after hbw1 hst
  clear IT hbt hs OA OO
  generalize szS h.words l = sa at *
  generalize szS h.words (ordF h.words h.roots) = sb at *
  have sw : IntKind.i64.wrap (sa - sb) = sa - sb := by
   simp [IntKind.wrap, IntKind.bits, IntKind.signed]
   omega
  refine Disk.zr 10 22 (v := .int .i64 (sa - sb)) rfl rfl (w' := wt) (.inr hst) ?_
  simp only [zA, zB, zC]
  refine Disk.zr 11 2 (v := .int .i64 (sa - sb)) rfl rfl (w' := wt) (.inr hst) ?_
  simp only [zA, zB, zC]
  refine Disk.z_done (by kernel_rfl) ?_ _
  clear hst
  go_wp2
  go_ret
  exact ⟨wret_int E.out.symm, hbe⟩
end Go.Proofs.YthdffigckohpoaaGreat
/- Moves of the model. -/
namespace Go.Proofs.YthdffigckohpoaaGreat
open Go.RowKit
theorem ints_getD (l : List Nat) (a : Nat) : (ints l).getD a 0 = ((l.getD a 0 : Nat) : Int) := by
 unfold ints
 rw [List.getD_eq_getElem?_getD, List.getD_eq_getElem?_getD, List.getElem?_map]
 cases l[a]? <;> rfl
/-- What is known on the way of the model's Moves. -/
structure VJ (h : Hp) (w w2 : World) (gW : Nat) (went : List Nat) (lv : Value) (l : List Nat) (k : Nat) (vo : Value) (W : World) : Prop where
 ex : ∃ g c, vo = .slice (some ⟨g, 0, none⟩) k c /\ RI W g ((mvL h).take k) c /\ c <= maxLen /\ (g = w.heap.size + 1 ∨ w2.heap.size <= g)
 rw_ : RI W gW (ints went) 3200
 il : IR W lv (ints l)
 bel : Below w.heap.size w W
 sz : w2.heap.size <= W.heap.size
set_option maxRecDepth 100000 in
set_option maxHeartbeats 3200000 in
theorem specMoves_c (v : Value) (h : Hp) (w : World) (hv : HR w v h) (hro : h.roots.length <= 1000000000000) (hke : h.kept.length <= 1000000000000) :
  Calls Tryz.prog 15 #[v] w fun x w' => (∃ v', x = .returned v' /\ IR w' v' (mvC h)) /\ Below w.heap.size w w' := by
 obtain ⟨v1, v2, v3, rfl, i1, i2, i3⟩ := id hv
 cases hk : okC h
 ·have hb0 : Below w.heap.size w ((w.alloc (.cells #[v1, v2, .int .i64 h.old, .int .i64 h.eden, .int .i64 h.surv, .bool h.flip, .int .i64 h.hash, v3] 26)).alloc (.cells #[] 2)) := bel_after (bel_one _ _) (bel_one _ _)
  have C := specHeapOk_c _ h _ (hv.later hb0) hro hke
  rw [hk] at C
  have E : Hid (mvC h = []) := (by unfold mvC; rw [hk]; simp : mvC h = [])
  obtain ⟨c0, c1, c2, c3, c4, c5, c6, c7⟩ := (Bx.new w v1 v2 v3 h 26).later (bel_one _ (.cells #[] 2))
  go_enter Tryz.func15, Tryz.ntmps15
  go_wp2_with fail
  refine C.mono ?_
  rintro x w1 ⟨rfl, hb1⟩
  go_wp2
  go_ret
  exact ⟨⟨_, rfl, by rw [E.out]; exact ⟨_, _, rfl, Nat.le_refl _, fun i hi => absurd hi (by simp)⟩⟩, bel_after hb0 hb1⟩
 ·have R := c_right hk
  have HL : Hid (h.words.length = 3200) := R.1.1
  obtain ⟨b, o, c1, rfl, hc1, hW⟩ := i1.ws (by have := R.1.1; omega)
  rw [R.1.1] at hc1 hv ⊢
  have hb0 : Below w.heap.size w ((w.alloc (.cells #[.slice (some ⟨b, o, none⟩) 3200 c1, v2, .int .i64 h.old, .int .i64 h.eden, .int .i64 h.surv, .bool h.flip, .int .i64 h.hash, v3] 26)).alloc (.cells #[] 2)) := bel_after (bel_one _ _) (bel_one _ _)
  have X0 := (Bx.new w (.slice (some ⟨b, o, none⟩) 3200 c1) v2 v3 h 26).later (bel_one _ (.cells #[] 2))
  have E0 : RI ((w.alloc (.cells #[.slice (some ⟨b, o, none⟩) 3200 c1, v2, .int .i64 h.old, .int .i64 h.eden, .int .i64 h.surv, .bool h.flip, .int .i64 h.hash, v3] 26)).alloc (.cells #[] 2)) (w.heap.size + 1) [] 0 := empty_at (by simp)
  have C0 := specHeapOk_c _ h _ (hv.later hb0) hro hke
  rw [hk] at C0
  have C := fun W (hb : Below w.heap.size w W) => l10Moves_any _ h (obC h) R W (hv.later hb)
  have A := fun W (hb : Below w.heap.size w W) => all_own _ h W (hv.later hb) hk
  have ls := R.1.short
  have OB : Hid (∀ a, a ∈ obC h -> a + 4 <= 3200) := fun a ha => (R.1.obj ha).1
  have MS : Hid (∀ i, i = (rcS h i).1.length -> ((gtS h.words (rcS h i).2 (obC h) (obC h).length).2 : Int) = szS h.words (rchL h) ∧
   ∀ j, j < (obC h).length -> ((gtS h.words (rcS h i).2 (obC h) (obC h).length).1.getD ((obC h).getD j 0) 0 : Int) - 1 = (mvL h).getD j 0) := fun i e => mv_spec hk e
  have ML : Hid ((mvL h).length = (obC h).length) := mv_len h
  have MC : Hid (mvC h = if szS h.words (rchL h) <= 2000 then mvL h else []) := (by unfold mvC; rw [hk]; simp : mvC h = if szS h.words (rchL h) <= 2000 then mvL h else [])
  generalize obC h = l at *
  clear i1 i2 i3 hv hk
  obtain ⟨k0, k1, k2, k3, k4, k5, k6, k7⟩ := id X0
  go_enter Tryz.func15, Tryz.ntmps15
  go_wp2_with fail
  refine C0.mono ?_
  rintro e w0 ⟨rfl, hbA⟩
  have hbw0 := bel_after hb0 hbA
  have XA := X0.later hbA
  have EA := E0.later hbA
  have sA := EA.lt
  clear k0 k1 k2 k3 k4 k5 k6 k7 X0 C0 E0
  obtain ⟨k0, k1, k2, k3, k4, k5, k6, k7⟩ := id XA
  go_wp2_with fail
  refine (C _ hbw0).mono ?_
  rintro e w1 ⟨⟨gW, ix, rfl, gW0, ei, GTT, RW⟩, hb1⟩
  obtain ⟨ME, MJ⟩ := MS.out ix ei
  have GL := GTT.len
  have GE := GTT.le
  clear ei C MS GTT
  generalize gtS h.words (rcS h ix).2 l l.length = gt at *
  obtain ⟨went, en⟩ := gt
  have ME' : Hid ((en : Int) = szS h.words (rchL h)) := ME
  have MJ' : Hid (∀ j, j < l.length -> ((went.getD (l.getD j 0) 0 : Nat) : Int) - 1 = (mvL h).getD j 0) := MJ
  have GL' : Hid (went.length = 3200) := GL
  have RW' : RI w1 gW (ints went) 3200 := RW
  have GE' : Hid (∀ a, went.getD a 0 <= en + 1) := GE
  have eb : en <= 300000 := by
   have := (szS_le (W := h.words) (l := rchL h) (fun a ha => (rch_obs (c_yes R).1).2 a ha |>.2)).2
   have := (rch_obs (c_yes R).1).1
   have := ME'.out
   omega
  clear ME MJ GL RW GE
  have hbw1 := bel_after hbw0 hb1
  have EB := EA.later hb1
  clear k0 k1 k2 k3 k4 k5 k6 k7 EA
  obtain ⟨k0, k1, k2, k3, k4, k5, k6, k7⟩ := XA.later hb1
  go_wp2_with fail
  refine (A w1 hbw1).mono ?_
  rintro e w2 ⟨⟨lv, rfl, OL⟩, hb2⟩
  clear A
  have hbw2 := bel_after hbw1 hb2
  have RW2 := RW'.later hb2
  have EC := EB.later hb2
  have IL0 := IR_of_owns' OL
  have s0 := EB.lt
  have LO : Hid (∀ b, inB lv b -> w.heap.size + 2 <= b /\ b < w2.heap.size) := fun b q => ⟨Nat.le_trans s0 (own_lowM OL (inB_own OL q)), (OL.lt b (inB_own OL q)).2⟩
  have LW : w.heap.size + 2 <= gW /\ gW < w2.heap.size := ⟨by omega, RW2.lt⟩
  obtain ⟨la, lc, rfl, -⟩ := intsI IL0
  clear k0 k1 k2 k3 k4 k5 k6 k7 XA hb1 hb2 hW hbw1 hb0 hbA hbw0 RW' EB OL s0 sA
  have J0 : VJ h w w2 gW went (.slice la l.length lc) l 0 (.slice (some ⟨w.heap.size + 1, 0, none⟩) 0 0) w2 := ⟨⟨_, _, rfl, EC, Nat.zero_le _, .inl rfl⟩, RW2, IL0, hbw2, Nat.le_refl _⟩
  clear EC RW2 IL0 hbw2
  by_cases hfit : (en : Int) <= 2000
  ·have MC' : Hid (mvC h = mvL h) := (by rw [MC.out, if_pos (by have := ME'.out; omega)] : mvC h = mvL h)
   clear MC ME'
   go_wp2
   go_loopw [3, 7] (fun vo iv wr => ∃ k : Nat, k <= l.length /\ iv = .int .i64 k /\ VJ h w w2 gW went (.slice la l.length lc) l k vo wr) (fun _ iv _ => l.length - (intOf iv).toNat)
   case atStart => exact ⟨0, Nat.zero_le _, rfl, J0⟩
   case round =>
    clear J0
    obtain ⟨k, hk, rfl, J⟩ := hrel
    obtain ⟨g, c, rfl, RO, hc, hg⟩ := J.ex
    by_cases hlt : k < l.length
    ·obtain ⟨la', lc', e, hlc⟩ := intsI J.il
     simp only [Value.slice.injEq, true_and] at e
     obtain ⟨rfl, rfl⟩ := e
     obtain ⟨lb, lo, rfl, cl⟩ := hlc k hlt
     have a4 := OB.out _ (lget_mem _ _ hlt)
     have mj := MJ'.out k hlt
     have ge := GE'.out (l.getD k 0)
     have cw := J.rw_.cell (i := l.getD k 0) (by rw [ints_length, GL'.out]; omega)
     have ei := ints_getD went (l.getD k 0)
     rw [ei] at cw
     have TS : Hid ((mvL h).take (k + 1) = (mvL h).take k ++ [(mvL h).getD k 0]) := itake_snoc _ _ (by rw [ML.out]; exact hlt)
     have tl : ((mvL h).take k).length = k := by rw [List.length_take, ML.out]; omega
     generalize (mvL h).getD k 0 = x at *
     generalize hwg : went.getD (l.getD k 0) 0 = wg at *
     generalize l.getD k 0 = a at *
     have wg1 : wg <= 300001 := by omega
     have ltk : (k : Int) < (l.length : Int) := by omega
     have lta : (a : Int) < 3200 := by omega
     have k1 : k + 1 <= l.length := hlt
     have mjx : Hid ((wg : Int) - 1 = x) := mj
     have al := bel_one wr (.cells #[.int .i64 ((wg : Int) - 1)] 2)
     have RO2 := RO.later al
     have I1 : IR (wr.alloc (.cells #[.int .i64 ((wg : Int) - 1)] 2)) (.slice (some ⟨wr.heap.size, 0, none⟩) 1 1) [(wg : Int) - 1] := ⟨_, 1, rfl, Nat.le_refl _, fun i hi => ⟨_, _, rfl, by
      obtain rfl : i = 0 := by simpa using hi
      simp⟩⟩
     have sw : IntKind.i64.wrap ((wg : Int) - 1) = (wg : Int) - 1 := by
      simp [IntKind.wrap, IntKind.bits, IntKind.signed]
      omega
     clear hlc ei mj hwg ge MJ' GE'
     go_wp2_with (at_builtin; refine app_ri _ rfl _ _ rfl g c k ((mvL h).take k) rfl tl.symm RO2 (by omega) hc _ _ 1 [(wg : Int) - 1] rfl rfl I1 (by simp) ?_; intro g1 c1 w3 R3 G3 wh3 mx3)
     have sz0 := J.sz
     have alz : (wr.alloc (.cells #[.int .i64 ((wg : Int) - 1)] 2)).heap.size = wr.heap.size + 1 := by simp
     have ng : ∀ b, w.heap.size + 2 <= b -> b < w2.heap.size -> some b ≠ some g := fun b q1 q2 e => by
      have := Option.some.inj e
      rcases hg with q | q <;> omega
     refine ⟨⟨k + 1, k1, by go_num, ⟨⟨g1, c1, rfl, by rw [TS.out, ← mjx.out]; exact R3, mx3, ?_⟩, (J.rw_.later al).grown G3 (ng gW LW.1 LW.2), (Grew.grown G3).ir (J.il.later al) (fun b q e => ng b (LO.out b q).1 (LO.out b q).2 e.symm), ?_, by have := G3.size; omega⟩⟩, by simp [intOf]; omega⟩
     ·rcases wh3 with e | e
      ·rw [e]; exact hg
      ·right; omega
     ·exact Below.grown (bel_after J.bel al) G3 (bel_after J.bel al).size (fun q e => by cases e; rcases hg with z | z <;> have := J.bel.size <;> omega)
    ·obtain rfl : k = l.length := by omega
     have FN : IR wr (.slice (some ⟨g, 0, none⟩) l.length c) (mvC h) := by
      rw [MC'.out]
      have q := RO.ir (cap := c) RO.le
      rw [List.take_of_length_le (by rw [ML.out]; omega), ML.out] at q
      exact q
     have BF := J.bel
     clear J MJ' GE'
     go_wp2
     go_ret
     exact ⟨⟨_, rfl, FN⟩, BF⟩
  ·have MC' : Hid (mvC h = []) := (by rw [MC.out, if_neg (by have := ME'.out; omega)] : mvC h = [])
   have BF := J0.bel
   clear MC ME' MJ' GE' J0
   go_wp2
   go_loopw [3, 7] (fun vo iv wr => vo = .slice (some ⟨w.heap.size + 1, 0, none⟩) 0 0 /\ iv = .int .i64 0 /\ wr = w2) (fun _ _ _ => 0)
   case atStart => exact ⟨rfl, rfl, rfl⟩
   case round =>
    obtain ⟨rfl, rfl, hwr⟩ := hrel
    obtain rfl := hwr.symm
    clear hwr
    by_cases h0 : (0 : Int) < (l.length : Int)
    ·go_wp2
     go_ret
     exact ⟨⟨_, rfl, by rw [MC'.out]; exact ⟨_, _, rfl, Nat.le_refl _, fun i hi => absurd hi (by simp)⟩⟩, BF⟩
    ·go_wp2
     go_ret
     exact ⟨⟨_, rfl, by rw [MC'.out]; exact ⟨_, _, rfl, Nat.le_refl _, fun i hi => absurd hi (by simp)⟩⟩, BF⟩
end Go.Proofs.YthdffigckohpoaaGreat
/- A region of a function, taken out of it. -/
namespace Go.Proofs.YthdffigckohpoaaGreat
open Go.RowKit
/-- The region of this number. -/
def regQ (n : Nat) : Code -> Option Code
 | .region i ops d => if i = n then some (.region i ops d) else none
 | .seq a b => match regQ n a with
  | some c => some c
  | none => regQ n b
 | .block _ c => regQ n c
 | .scope c => regQ n c
 | .loop c => regQ n c
 | .cond _ a b => match regQ n a with
  | some c => some c
  | none => regQ n b
 | _ => none
end Go.Proofs.YthdffigckohpoaaGreat
