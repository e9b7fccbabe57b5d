/- Get, ClassOf and HashOf of the program. -/
import Derived.Test.YtklafifiphbibaaGreatZV17
namespace Go.Proofs.YtklafifiphbibaaGreat
open Go.RowKit

set_option maxHeartbeats 1600000 in
theorem elementIn_any (a1 : Option Addr) (cap : Nat) (v2 v3 : Value) (h : Hp) (x : Int) (w : World) (hv : HR w (.agg #[.slice a1 h.words.length cap, v2, .int .i64 h.old, .int .i64 h.eden, .int .i64 h.surv, .bool h.flip, .int .i64 h.hash, v3]) h) (hro : h.roots.length ≤ 1000000000000) (hke : h.kept.length ≤ 1000000000000) :
    Calls Tryz.prog 34 #[.agg #[.slice a1 h.words.length cap, v2, .int .i64 h.old, .int .i64 h.eden, .int .i64 h.surv, .bool h.flip, .int .i64 h.hash, v3], .int .i64 x] w fun e w' => e = .returned (elW h (.slice a1 h.words.length cap) x) ∧ Below w.heap.size w w' := by
  have hb0 := bel_one w (.cells #[.slice a1 h.words.length cap, v2, .int .i64 h.old, .int .i64 h.eden, .int .i64 h.surv, .bool h.flip, .int .i64 h.hash, v3] 26)
  have C := right_c _ h _ (hv.later hb0) hro hke
  have E : Hid (elW h (.slice a1 h.words.length cap) x = if okC h = true then elV (obC h) (.slice a1 h.words.length cap) x else .iface 86 (.agg #[])) := (rfl : _ = _)
  clear hv
  cases hk : okC h
  · rw [hk] at C E
    go_enter Tryz.func34, Tryz.ntmps34
    go_wp2_with fail
    refine C.mono ?_
    rintro e w1 ⟨⟨v', rfl, ho⟩, hb1⟩
    go_wp2
    go_ret
    exact ⟨by rw [E.out]; rfl, bel_after hb0 hb1⟩
  · have so := ok_sorted hk
    have sh := ob_short h
    rw [hk] at C E
    rw [if_pos rfl] at E
    generalize obC h = l at *
    go_enter Tryz.func34, Tryz.ntmps34
    go_wp2_with fail
    refine C.mono ?_
    rintro e w1 ⟨⟨v', rfl, ho⟩, hb1⟩
    have hbw := bel_after hb0 hb1
    have io := IR_of_owns' ho
    obtain ⟨oa, oc, rfl, -⟩ := intsI io
    have c0 : w1.cell? ⟨w.heap.size, 0, none⟩ = some (.slice a1 h.words.length cap) := cell_later hb1 (cell_new w _ _ _ rfl 0 _ rfl)
    have EL := elementOf_any a1 oa h.words.length cap oc l x w1 io so (by omega)
    clear C ho
    go_wp2_with fail
    refine EL.mono ?_
    rintro e w2 ⟨rfl, hb2⟩
    go_wp2
    go_ret
    exact ⟨by rw [E.out]; rfl, bel_after hbw hb2⟩

set_option maxHeartbeats 1600000 in
theorem implGet_c (v : Value) (h : Hp) (x i : Int) (w : World) (hv : HR w v h) (hro : h.roots.length ≤ 1000000000000) (hke : h.kept.length ≤ 1000000000000) :
    Calls Tryz.prog 10 #[v, .int .i64 x, .int .i64 i] w fun e w' => e = .returned (.tuple #[.int .i64 (getC h x i), .bool (fldB h x i)]) ∧ Below w.heap.size w w' := by
  obtain ⟨v1, v2, v3, rfl, i1, i2, i3⟩ := id hv
  obtain ⟨a1, cap, rfl, -⟩ := IRs i1
  have hb0 := bel_one w (.cells #[.slice a1 h.words.length cap, v2, .int .i64 h.old, .int .i64 h.eden, .int .i64 h.surv, .bool h.flip, .int .i64 h.hash, v3] 26)
  have EI := elementIn_any a1 cap v2 v3 h x _ (hv.later hb0) hro hke
  rcases el_cases h (.slice a1 h.words.length cap) x with ⟨e, n, _⟩ | ⟨hk, e, n, _⟩ | ⟨hk, r, a, ha, ea, k2, e⟩
  · have N : fldB h x i = false := by
      unfold fldB
      cases hk : okC h
      · rfl
      · rw [hk, Bool.and_true] at n
        rw [n]
        rfl
    have G : Hid (getC h x i = 0) := (by unfold getC; rw [N]; rfl : getC h x i = 0)
    rw [e] at EI
    have hm := mNF
    have HP := fun W => hasPlace_any none 0 0 i W
    rw [decide_eq_false (by omega)] at HP
    clear e n i1 i2 i3 hv
    go_enter Tryz.func10, Tryz.ntmps10
    go_wp2_with fail
    refine EI.mono ?_
    rintro e w1 ⟨rfl, hb1⟩
    have hbw := bel_after hb0 hb1
    go_wp2_with fail
    refine (noneF_any _).mono ?_
    rintro e w2 ⟨rfl, hb2⟩
    have hbw2 := bel_after hbw hb2
    go_wp2_with (go_at_call 35; refine (HP _).mono ?_; rintro e wq ⟨rfl, hq⟩; obtain rfl := hq.symm)
    exact bodyPost_ret (v := .tuple #[.int .i64 0, .bool false]) (by simp [results, Tryz.results10, go_sem]) rfl ⟨by rw [N, G.out], hbw2⟩
  · have N : fldB h x i = false := by unfold fldB; rw [hk, n]; rfl
    have G : Hid (getC h x i = 0) := (by unfold getC; rw [N]; rfl : getC h x i = 0)
    rw [e] at EI
    have hm := mUF
    have HP := fun W => hasPlace_any none 0 0 i W
    rw [decide_eq_false (by omega)] at HP
    clear e n i1 i2 i3 hv
    go_enter Tryz.func10, Tryz.ntmps10
    go_wp2_with fail
    refine EI.mono ?_
    rintro e w1 ⟨rfl, hb1⟩
    have hbw := bel_after hb0 hb1
    go_wp2_with fail
    refine (numF_any _).mono ?_
    rintro e w2 ⟨rfl, hb2⟩
    have hbw2 := bel_after hbw hb2
    go_wp2_with (go_at_call 35; refine (HP _).mono ?_; rintro e wq ⟨rfl, hq⟩; obtain rfl := hq.symm)
    exact bodyPost_ret (v := .tuple #[.int .i64 0, .bool false]) (by simp [results, Tryz.results10, go_sem]) rfl ⟨by rw [N, G.out], hbw2⟩
  · have R := c_right hk
    obtain ⟨q1, q2, q3⟩ := R.1.obj ha
    have q4 := size_of q3
    have hl := R.1.1
    obtain ⟨b, o, cap', e1, hcap, hW⟩ := i1.ws (by omega)
    simp only [Value.slice.injEq, true_and] at e1
    obtain ⟨rfl, rfl⟩ := e1
    have FB : Hid (fldB h x i = decide (0 ≤ i ∧ i < gw h.words a)) := (by unfold fldB; rw [hk, r, ea]; rfl : fldB h x i = decide (0 ≤ i ∧ i < gw h.words a))
    have GC : Hid (fldB h x i = true → getC h x i = gw h.words (a + 4 + i.toNat)) := (fun q => by unfold getC; rw [q, ea]; rfl : fldB h x i = true → getC h x i = gw h.words (a + 4 + i.toNat))
    have GN : Hid (fldB h x i = false → getC h x i = 0) := (fun q => by unfold getC; rw [q]; rfl : fldB h x i = false → getC h x i = 0)
    have OF := fun W hb => objF_any b o cap h.words a W (hW.later hb) hl (by omega) q1 q4 q2
    rw [hl] at EI hcap
    have nxe : nx h.words a = a + 4 + (gw h.words a).toNat := rfl
    rw [nxe] at q2
    have HWS : Hid (∀ W, Below w.heap.size w W → ∀ j, j < 3200 → W.cell? ⟨b, o + j, none⟩ = some (.int .i64 (gw h.words j))) := fun W hb j hj => (hW.later hb) j (by omega)
    have hm1 := mOF (.slice (some ⟨b, o, none⟩) 3200 cap) a
    have hm2 := mYF (.slice (some ⟨b, o, none⟩) 3200 cap) a
    have EE : Hid (elW h (.slice (some ⟨b, o, none⟩) 3200 cap) x = .iface 91 (.agg #[.slice (some ⟨b, o, none⟩) 3200 cap, .int .i64 a]) ∨ elW h (.slice (some ⟨b, o, none⟩) 3200 cap) x = .iface 93 (.agg #[.slice (some ⟨b, o, none⟩) 3200 cap, .int .i64 a])) := by rw [hl] at e; exact e
    clear e i1 i2 i3 hv hW R ha ea k2 nxe hk r
    generalize fldB h x i = fb at *
    generalize getC h x i = gc at *
    generalize elW h (.slice (some ⟨b, o, none⟩) 3200 cap) x = ev at *
    replace hl : Hid (h.words.length = 3200) := hl
    rcases EE with rfl | rfl
    · clear hm2
      rw [hl.out] at hb0 ⊢
      go_enter Tryz.func10, Tryz.ntmps10
      go_wp2_with fail
      refine EI.mono ?_
      rintro e w1 ⟨rfl, hb1⟩
      have hbw := bel_after hb0 hb1
      go_wp2_with fail
      refine (OF _ hbw).mono ?_
      rintro e w2 ⟨⟨q, c, rfl, hc, hq⟩, hb2⟩
      have hbw2 := bel_after hbw hb2
      by_cases hi : 0 ≤ i ∧ i < gw h.words a
      · obtain ⟨k, rfl⟩ : ∃ k : Nat, i = k := ⟨i.toNat, by omega⟩
        have HP := fun W => hasPlace_any (some ⟨b, q, none⟩) (gw h.words a).toNat c k W
        rw [decide_eq_true (by omega)] at HP
        rw [decide_eq_true hi] at FB
        obtain rfl := hq.resolve_left (by omega)
        have ck := HWS.out w2 hbw2 (a + 4 + k) (by omega)
        rw [show o + (a + 4 + k) = o + (a + 4) + k from by omega] at ck
        have GE := GC.out FB.out
        rw [Int.toNat_natCast] at GE
        have hkn : k < (gw h.words a).toNat := by omega
        have hki : (k : Int) < (gw h.words a).toNat := by omega
        clear GC GN HWS hq EI OF
        generalize gw h.words (a + 4 + k) = y at *
        generalize (gw h.words a).toNat = n at *
        go_wp2_with (go_at_call 35; refine (HP _).mono ?_; rintro e wq ⟨rfl, hq⟩; obtain rfl := hq.symm)
        exact bodyPost_ret (v := .tuple #[.int .i64 y, .bool true]) (by simp [results, Tryz.results10, go_sem]) rfl ⟨by rw [FB.out, GE], hbw2⟩
      · have HP := fun W => hasPlace_any (some ⟨b, q, none⟩) (gw h.words a).toNat c i W
        rw [decide_eq_false (by omega)] at HP
        rw [decide_eq_false hi] at FB
        have GE := GN.out FB.out
        clear GC GN HWS hq EI OF
        go_wp2_with (go_at_call 35; refine (HP _).mono ?_; rintro e wq ⟨rfl, hq⟩; obtain rfl := hq.symm)
        exact bodyPost_ret (v := .tuple #[.int .i64 0, .bool false]) (by simp [results, Tryz.results10, go_sem]) rfl ⟨by rw [FB.out, GE], hbw2⟩
    · clear hm1
      rw [hl.out] at hb0 ⊢
      go_enter Tryz.func10, Tryz.ntmps10
      go_wp2_with fail
      refine EI.mono ?_
      rintro e w1 ⟨rfl, hb1⟩
      have hbw := bel_after hb0 hb1
      go_wp2_with fail
      refine (OF _ hbw).mono ?_
      rintro e w2 ⟨⟨q, c, rfl, hc, hq⟩, hb2⟩
      have hbw2 := bel_after hbw hb2
      by_cases hi : 0 ≤ i ∧ i < gw h.words a
      · obtain ⟨k, rfl⟩ : ∃ k : Nat, i = k := ⟨i.toNat, by omega⟩
        have HP := fun W => hasPlace_any (some ⟨b, q, none⟩) (gw h.words a).toNat c k W
        rw [decide_eq_true (by omega)] at HP
        rw [decide_eq_true hi] at FB
        obtain rfl := hq.resolve_left (by omega)
        have ck := HWS.out w2 hbw2 (a + 4 + k) (by omega)
        rw [show o + (a + 4 + k) = o + (a + 4) + k from by omega] at ck
        have GE := GC.out FB.out
        rw [Int.toNat_natCast] at GE
        have hkn : k < (gw h.words a).toNat := by omega
        have hki : (k : Int) < (gw h.words a).toNat := by omega
        clear GC GN HWS hq EI OF
        generalize gw h.words (a + 4 + k) = y at *
        generalize (gw h.words a).toNat = n at *
        go_wp2_with (go_at_call 35; refine (HP _).mono ?_; rintro e wq ⟨rfl, hq⟩; obtain rfl := hq.symm)
        exact bodyPost_ret (v := .tuple #[.int .i64 y, .bool true]) (by simp [results, Tryz.results10, go_sem]) rfl ⟨by rw [FB.out, GE], hbw2⟩
      · have HP := fun W => hasPlace_any (some ⟨b, q, none⟩) (gw h.words a).toNat c i W
        rw [decide_eq_false (by omega)] at HP
        rw [decide_eq_false hi] at FB
        have GE := GN.out FB.out
        clear GC GN HWS hq EI OF
        go_wp2_with (go_at_call 35; refine (HP _).mono ?_; rintro e wq ⟨rfl, hq⟩; obtain rfl := hq.symm)
        exact bodyPost_ret (v := .tuple #[.int .i64 0, .bool false]) (by simp [results, Tryz.results10, go_sem]) rfl ⟨by rw [FB.out, GE], hbw2⟩

set_option maxHeartbeats 1600000 in
theorem implClassOf_c (v : Value) (h : Hp) (x : Int) (w : World) (hv : HR w v h) (hro : h.roots.length ≤ 1000000000000) (hke : h.kept.length ≤ 1000000000000) :
    Calls Tryz.prog 13 #[v, .int .i64 x] w fun e w' => e = .returned (.int .i64 (clsC h x 1 100)) ∧ Below w.heap.size w w' := by
  obtain ⟨v1, v2, v3, rfl, i1, i2, i3⟩ := id hv
  obtain ⟨a1, cap, rfl, -⟩ := IRs i1
  have hb0 := bel_one w (.cells #[.slice a1 h.words.length cap, v2, .int .i64 h.old, .int .i64 h.eden, .int .i64 h.surv, .bool h.flip, .int .i64 h.hash, v3] 26)
  have EI := elementIn_any a1 cap v2 v3 h x _ (hv.later hb0) hro hke
  rcases el_cases h (.slice a1 h.words.length cap) x with ⟨e, n, n1⟩ | ⟨hk, e, n, k1⟩ | ⟨hk, r, a, ha, ea, k2, e⟩
  · have G : Hid (clsC h x 1 100 = -1) := (by
      unfold clsC
      cases hk : okC h
      · rfl
      · rw [hk, Bool.and_true] at n
        rw [if_pos rfl, if_neg (n1 hk), n]
        rfl : clsC h x 1 100 = -1)
    rw [e] at EI
    have hm := mNC
    clear e n n1 i1 i2 i3 hv
    go_enter Tryz.func13, Tryz.ntmps13
    go_wp2_with fail
    refine EI.mono ?_
    rintro e w1 ⟨rfl, hb1⟩
    have hbw := bel_after hb0 hb1
    go_wp2_with fail
    refine (noneC_any _).mono ?_
    rintro e w2 ⟨rfl, hb2⟩
    have hbw2 := bel_after hbw hb2
    go_wp2
    go_ret
    exact ⟨wret_int G.out.symm, hbw2⟩
  · have G : Hid (clsC h x 1 100 = 100) := (by unfold clsC; rw [hk, if_pos rfl, if_pos k1] : clsC h x 1 100 = 100)
    rw [e] at EI
    have hm := mUC
    clear e n i1 i2 i3 hv hk k1
    go_enter Tryz.func13, Tryz.ntmps13
    go_wp2_with fail
    refine EI.mono ?_
    rintro e w1 ⟨rfl, hb1⟩
    have hbw := bel_after hb0 hb1
    go_wp2_with fail
    refine (numC_any _).mono ?_
    rintro e w2 ⟨rfl, hb2⟩
    have hbw2 := bel_after hbw hb2
    go_wp2
    go_ret
    exact ⟨wret_int G.out.symm, hbw2⟩
  · have R := c_right hk
    obtain ⟨q1, q2, q3⟩ := R.1.obj ha
    have hl := R.1.1
    obtain ⟨b, o, cap', e1, hcap, hW⟩ := i1.ws (by omega)
    simp only [Value.slice.injEq, true_and] at e1
    obtain ⟨rfl, rfl⟩ := e1
    have G : Hid (clsC h x 1 100 = gw h.words (a + 1)) := (by unfold clsC; rw [hk, if_pos rfl, if_neg (by omega), if_pos r, ea]; rfl : clsC h x 1 100 = gw h.words (a + 1))
    have OC := fun W hb => objC_any b o cap h.words a W (hW.later hb) hl q1
    rw [hl] at EI
    have hm1 := mOC (.slice (some ⟨b, o, none⟩) 3200 cap) a
    have hm2 := mYC (.slice (some ⟨b, o, none⟩) 3200 cap) a
    have EE : Hid (elW h (.slice (some ⟨b, o, none⟩) 3200 cap) x = .iface 91 (.agg #[.slice (some ⟨b, o, none⟩) 3200 cap, .int .i64 a]) ∨ elW h (.slice (some ⟨b, o, none⟩) 3200 cap) x = .iface 93 (.agg #[.slice (some ⟨b, o, none⟩) 3200 cap, .int .i64 a])) := by rw [hl] at e; exact e
    clear e i1 i2 i3 hv hW R ha ea k2 hk r q2 q3 hcap
    generalize clsC h x 1 100 = gc at *
    generalize gw h.words (a + 1) = y at *
    generalize elW h (.slice (some ⟨b, o, none⟩) 3200 cap) x = ev at *
    replace hl : Hid (h.words.length = 3200) := hl
    rcases EE with rfl | rfl
    · clear hm2
      rw [hl.out] at hb0 ⊢
      go_enter Tryz.func13, Tryz.ntmps13
      go_wp2_with fail
      refine EI.mono ?_
      rintro e w1 ⟨rfl, hb1⟩
      have hbw := bel_after hb0 hb1
      go_wp2_with fail
      refine (OC _ hbw).mono ?_
      rintro e w2 ⟨rfl, hb2⟩
      have hbw2 := bel_after hbw hb2
      go_wp2
      go_ret
      exact ⟨wret_int G.out.symm, hbw2⟩
    · clear hm1
      rw [hl.out] at hb0 ⊢
      go_enter Tryz.func13, Tryz.ntmps13
      go_wp2_with fail
      refine EI.mono ?_
      rintro e w1 ⟨rfl, hb1⟩
      have hbw := bel_after hb0 hb1
      go_wp2_with fail
      refine (OC _ hbw).mono ?_
      rintro e w2 ⟨rfl, hb2⟩
      have hbw2 := bel_after hbw hb2
      go_wp2
      go_ret
      exact ⟨wret_int G.out.symm, hbw2⟩

set_option maxHeartbeats 1600000 in
theorem implHashOf_c (v : Value) (h : Hp) (x : Int) (w : World) (hv : HR w v h) (hro : h.roots.length ≤ 1000000000000) (hke : h.kept.length ≤ 1000000000000) :
    Calls Tryz.prog 14 #[v, .int .i64 x] w fun e w' => e = .returned (.int .i64 (clsC h x 2 0)) ∧ Below w.heap.size w w' := by
  obtain ⟨v1, v2, v3, rfl, i1, i2, i3⟩ := id hv
  obtain ⟨a1, cap, rfl, -⟩ := IRs i1
  have hb0 := bel_one w (.cells #[.slice a1 h.words.length cap, v2, .int .i64 h.old, .int .i64 h.eden, .int .i64 h.surv, .bool h.flip, .int .i64 h.hash, v3] 26)
  have EI := elementIn_any a1 cap v2 v3 h x _ (hv.later hb0) hro hke
  rcases el_cases h (.slice a1 h.words.length cap) x with ⟨e, n, n1⟩ | ⟨hk, e, n, k1⟩ | ⟨hk, r, a, ha, ea, k2, e⟩
  · have G : Hid (clsC h x 2 0 = -1) := (by
      unfold clsC
      cases hk : okC h
      · rfl
      · rw [hk, Bool.and_true] at n
        rw [if_pos rfl, if_neg (n1 hk), n]
        rfl : clsC h x 2 0 = -1)
    rw [e] at EI
    have hm := mNH
    clear e n n1 i1 i2 i3 hv
    go_enter Tryz.func14, Tryz.ntmps14
    go_wp2_with fail
    refine EI.mono ?_
    rintro e w1 ⟨rfl, hb1⟩
    have hbw := bel_after hb0 hb1
    go_wp2_with fail
    refine (noneH_any _).mono ?_
    rintro e w2 ⟨rfl, hb2⟩
    have hbw2 := bel_after hbw hb2
    go_wp2
    go_ret
    exact ⟨wret_int G.out.symm, hbw2⟩
  · have G : Hid (clsC h x 2 0 = 0) := (by unfold clsC; rw [hk, if_pos rfl, if_pos k1] : clsC h x 2 0 = 0)
    rw [e] at EI
    have hm := mUH
    clear e n i1 i2 i3 hv hk k1
    go_enter Tryz.func14, Tryz.ntmps14
    go_wp2_with fail
    refine EI.mono ?_
    rintro e w1 ⟨rfl, hb1⟩
    have hbw := bel_after hb0 hb1
    go_wp2_with fail
    refine (numH_any _).mono ?_
    rintro e w2 ⟨rfl, hb2⟩
    have hbw2 := bel_after hbw hb2
    go_wp2
    go_ret
    exact ⟨wret_int G.out.symm, hbw2⟩
  · have R := c_right hk
    obtain ⟨q1, q2, q3⟩ := R.1.obj ha
    have hl := R.1.1
    obtain ⟨b, o, cap', e1, hcap, hW⟩ := i1.ws (by omega)
    simp only [Value.slice.injEq, true_and] at e1
    obtain ⟨rfl, rfl⟩ := e1
    have G : Hid (clsC h x 2 0 = gw h.words (a + 2)) := (by unfold clsC; rw [hk, if_pos rfl, if_neg (by omega), if_pos r, ea]; rfl : clsC h x 2 0 = gw h.words (a + 2))
    have OC := fun W hb => objH_any b o cap h.words a W (hW.later hb) hl q1
    rw [hl] at EI
    have hm1 := mOH (.slice (some ⟨b, o, none⟩) 3200 cap) a
    have hm2 := mYH (.slice (some ⟨b, o, none⟩) 3200 cap) a
    have EE : Hid (elW h (.slice (some ⟨b, o, none⟩) 3200 cap) x = .iface 91 (.agg #[.slice (some ⟨b, o, none⟩) 3200 cap, .int .i64 a]) ∨ elW h (.slice (some ⟨b, o, none⟩) 3200 cap) x = .iface 93 (.agg #[.slice (some ⟨b, o, none⟩) 3200 cap, .int .i64 a])) := by rw [hl] at e; exact e
    clear e i1 i2 i3 hv hW R ha ea k2 hk r q2 q3 hcap
    generalize clsC h x 2 0 = gc at *
    generalize gw h.words (a + 2) = y at *
    generalize elW h (.slice (some ⟨b, o, none⟩) 3200 cap) x = ev at *
    replace hl : Hid (h.words.length = 3200) := hl
    rcases EE with rfl | rfl
    · clear hm2
      rw [hl.out] at hb0 ⊢
      go_enter Tryz.func14, Tryz.ntmps14
      go_wp2_with fail
      refine EI.mono ?_
      rintro e w1 ⟨rfl, hb1⟩
      have hbw := bel_after hb0 hb1
      go_wp2_with fail
      refine (OC _ hbw).mono ?_
      rintro e w2 ⟨rfl, hb2⟩
      have hbw2 := bel_after hbw hb2
      go_wp2
      go_ret
      exact ⟨wret_int G.out.symm, hbw2⟩
    · clear hm1
      rw [hl.out] at hb0 ⊢
      go_enter Tryz.func14, Tryz.ntmps14
      go_wp2_with fail
      refine EI.mono ?_
      rintro e w1 ⟨rfl, hb1⟩
      have hbw := bel_after hb0 hb1
      go_wp2_with fail
      refine (OC _ hbw).mono ?_
      rintro e w2 ⟨rfl, hb2⟩
      have hbw2 := bel_after hbw hb2
      go_wp2
      go_ret
      exact ⟨wret_int G.out.symm, hbw2⟩

end Go.Proofs.YtklafifiphbibaaGreat
