/- Garbage of the program. -/
import Derived.Test.YtfcidgnjanidoaaZCWt
import Derived.Test.YtfcidgnjanidoaaZDZed
namespace Go.Proofs.Ytfcidgnjanidoaa
open Go.RowKit

set_option maxRecDepth 100000 in
set_option maxHeartbeats 3200000 in
theorem implGarbage_c (v : Value) (h : Hp) (w : World) (hv : HR w v h) (hro : h.roots.length ≤ 1000000000000) (hke : h.kept.length ≤ 1000000000000) :
    Calls Try.prog 14 #[v] w fun x w' => x = .returned (.int .i64 (gaC h)) ∧ Below w.heap.size w w' := by
  obtain ⟨v1, v2, v3, rfl, i1, i2, i3⟩ := id hv
  cases hk : okC h
  · have hb0 := bel_one w (.cells #[v1, v2, .int .i64 h.old, .int .i64 h.eden, .int .i64 h.surv, .bool h.flip, .int .i64 h.hash, v3] 26)
    have C := right_c _ h _ (hv.later hb0) hro hke
    rw [hk] at C
    have E : Hid (gaC h = -1) := (by unfold gaC; rw [hk]; rfl : gaC h = -1)
    obtain ⟨c0, c1, c2, c3, c4, c5, c6, c7⟩ := Bx.new w v1 v2 v3 h 26
    go_enter Try.func14, Try.ntmps14
    go_wp2_with fail
    refine C.mono ?_
    rintro x w1 ⟨⟨v', rfl, ho⟩, hb1⟩
    go_wp2
    go_ret
    exact ⟨wret_int E.out.symm, bel_after hb0 hb1⟩
  · have R := c_right hk
    have HL : Hid (h.words.length = 3200) := R.1.1
    obtain ⟨b, o, c1, rfl, hc1, hW⟩ := i1.ws (by have := R.1.1; omega)
    rw [R.1.1] at hc1 hv ⊢
    have hb0 := bel_one w (.cells #[.slice (some ⟨b, o, none⟩) 3200 c1, v2, .int .i64 h.old, .int .i64 h.eden, .int .i64 h.surv, .bool h.flip, .int .i64 h.hash, v3] 26)
    have X0 := Bx.new w (.slice (some ⟨b, o, none⟩) 3200 c1) v2 v3 h 26
    have C := right_c _ h _ (hv.later hb0) hro hke
    rw [hk] at C
    have TF := fun W (hb : Below w.heap.size w W) => tourOf_any _ h (obC h) W (hv.later hb) R
    have OA := Obs.all R
    have OO := Obs.ord R
    have E : Hid (gaC h = szS h.words (obC h) - szS h.words (ordF h.words h.roots)) := (by unfold gaC; rw [hk]; rfl : gaC h = szS h.words (obC h) - szS h.words (ordF h.words h.roots))
    obtain ⟨ra1, ra2⟩ := szS_le (W := h.words) (l := obC h) fun a ha => (OA.2 a ha).2
    obtain ⟨rb1, rb2⟩ := szS_le (W := h.words) (l := ordF h.words h.roots) fun a ha => (OO.2 a ha).2
    have la := OA.1
    have lb := OO.1
    generalize obC h = l at *
    clear hk
    have hmx : Try.prog.follows .mixedOrders = true := by kernel_rfl
    obtain ⟨k0, k1, k2, k3, k4, k5, k6, k7⟩ := id X0
    go_enter Try.func14, Try.ntmps14
    go_wp2_with fail
    refine C.mono ?_
    rintro x w1 ⟨⟨lv, rfl, ho⟩, hb1⟩
    have hbw1 := bel_after hb0 hb1
    have X1 := X0.later hb1
    have IL := IR_of_owns' ho
    obtain ⟨oa, oc, rfl, -⟩ := intsI IL
    clear k0 k1 k2 k3 k4 k5 k6 k7 X0 C hb0 hb1 ho i1 i2 i3
    have hs0 : Below w1.heap.size w1 w1.drew := (Below.refl _ _).drew
    go_wp2_with fail
    refine Disk.z_plain 99 (fun W' => Below w1.heap.size w1 W') hmx hs0 (fun hs => ?_)
    clear hs0
    generalize w1.drew = wd at hs ⊢
    refine Disk.z_take 0 12 (v := .pointer (some ⟨w.heap.size, 0, none⟩)) rfl rfl (by kernel_rfl) (by kernel_rfl) (by kernel_rfl) (by kernel_rfl) (by rfl) hs (fun W' hSw => (by
      obtain ⟨s0, s1, s2, s3, s4, s5, s6, s7⟩ := X1.later hSw
      go_simp; first | done | with_reducible rfl)) ?_
    simp only [List.setIfInBounds_toArray, List.set_cons_zero, List.set_cons_succ]
    refine Disk.z_take 1 13 (v := .slice (some ⟨b, o, none⟩) 3200 c1) rfl rfl (by kernel_rfl) (by kernel_rfl) (by kernel_rfl) (by kernel_rfl) (by rfl) hs (fun W' hSw => (by
      obtain ⟨s0, s1, s2, s3, s4, s5, s6, s7⟩ := X1.later hSw
      go_simp; first | done | with_reducible rfl)) ?_
    simp only [List.setIfInBounds_toArray, List.set_cons_zero, List.set_cons_succ]
    refine Disk.z_take 2 14 (v := .slice oa l.length oc) rfl rfl (by kernel_rfl) (by kernel_rfl) (by kernel_rfl) (by kernel_rfl) (by rfl) hs (fun W' hSw => (by
      obtain ⟨s0, s1, s2, s3, s4, s5, s6, s7⟩ := X1.later hSw
      go_simp; first | done | with_reducible rfl)) ?_
    simp only [List.setIfInBounds_toArray, List.set_cons_zero, List.set_cons_succ]
    refine Disk.z_take 4 16 (v := .pointer (some ⟨w.heap.size, 0, none⟩)) rfl rfl (by kernel_rfl) (by kernel_rfl) (by kernel_rfl) (by kernel_rfl) (by rfl) hs (fun W' hSw => (by
      obtain ⟨s0, s1, s2, s3, s4, s5, s6, s7⟩ := X1.later hSw
      go_simp; first | done | with_reducible rfl)) ?_
    simp only [List.setIfInBounds_toArray, List.set_cons_zero, List.set_cons_succ]
    refine Disk.z_take 5 17 (v := .slice (some ⟨b, o, none⟩) 3200 c1) rfl rfl (by kernel_rfl) (by kernel_rfl) (by kernel_rfl) (by kernel_rfl) (by rfl) hs (fun W' hSw => (by
      obtain ⟨s0, s1, s2, s3, s4, s5, s6, s7⟩ := X1.later hSw
      go_simp; first | done | with_reducible rfl)) ?_
    simp only [List.setIfInBounds_toArray, List.set_cons_zero, List.set_cons_succ]
    refine Disk.z_take 6 18 (v := .agg #[.slice (some ⟨b, o, none⟩) 3200 c1, v2, .int .i64 h.old, .int .i64 h.eden, .int .i64 h.surv, .bool h.flip, .int .i64 h.hash, v3]) rfl rfl (by kernel_rfl) (by kernel_rfl) (by kernel_rfl) (by kernel_rfl) (by rfl) hs (fun W' hSw => (by
      obtain ⟨s0, s1, s2, s3, s4, s5, s6, s7⟩ := X1.later hSw
      go_simp; first | done | with_reducible rfl)) ?_
    simp only [List.setIfInBounds_toArray, List.set_cons_zero, List.set_cons_succ]
    refine Disk.z_call 3 15 rfl rfl (by kernel_rfl) (by rfl) (f := 30) (args := #[.slice (some ⟨b, o, none⟩) 3200 c1, .slice oa l.length oc]) (w0 := wd) (by go_simp) ?_
    refine (wordsTaken_any b o c1 h.words _ l wd ((hW.later hbw1).later hs) HL.out (IL.later hs) OA).mono ?_
    rintro e wq ⟨rfl, eq⟩
    obtain rfl := eq.symm
    clear eq
    refine ⟨_, rfl, .inr hs, ?_⟩
    simp only [List.setIfInBounds_toArray, List.set_cons_zero, List.set_cons_succ]
    refine Disk.z_call 7 19 rfl rfl (by kernel_rfl) (by rfl) (f := 31) (args := #[.agg #[.slice (some ⟨b, o, none⟩) 3200 c1, v2, .int .i64 h.old, .int .i64 h.eden, .int .i64 h.surv, .bool h.flip, .int .i64 h.hash, v3]]) (w0 := wd) (by go_simp) ?_
    refine (TF wd (bel_after hbw1 hs)).mono ?_
    rintro e wt ⟨ov, M, n, rfl, hot, -, -, -, hbt⟩
    have hst := bel_after hs hbt
    refine ⟨_, rfl, .inr hst, ?_⟩
    simp only [List.setIfInBounds_toArray, List.set_cons_zero, List.set_cons_succ]
    have IT := IR_of_owns' hot
    obtain ⟨ta, tc, rfl⟩ := own_shape hot
    clear hot
    refine Disk.z_run 8 20 (v := .slice ta (ordF h.words h.roots).length tc) rfl rfl (by kernel_rfl) (by rfl) (w' := wt) (by kernel_rfl) (.inr hst) ?_
    simp only [List.setIfInBounds_toArray, List.set_cons_zero, List.set_cons_succ]
    refine Disk.z_call 9 21 rfl rfl (by kernel_rfl) (by rfl) (f := 30) (args := #[.slice (some ⟨b, o, none⟩) 3200 c1, .slice ta (ordF h.words h.roots).length tc]) (w0 := wt) (by go_simp) ?_
    refine (wordsTaken_any b o c1 h.words _ _ wt ((hW.later hbw1).later hst) HL.out IT OO).mono ?_
    rintro e wq ⟨rfl, eq⟩
    obtain rfl := eq.symm
    clear eq
    refine ⟨_, rfl, .inr hst, ?_⟩
    simp only [List.setIfInBounds_toArray, List.set_cons_zero, List.set_cons_succ]
    have hbe := bel_after hbw1 hst
    clear IT hbt hs OA OO
    generalize szS h.words l = sa at *
    generalize szS h.words (ordF h.words h.roots) = sb at *
    have sw : IntKind.i64.wrap (sa - sb) = sa - sb := by
      simp [IntKind.wrap, IntKind.bits, IntKind.signed]
      omega
    refine Disk.z_run 10 22 (v := .int .i64 (sa - sb)) rfl rfl (by kernel_rfl) (by rfl) (w' := wt) (by go_simp; first | done | with_reducible rfl) (.inr hst) ?_
    simp only [List.setIfInBounds_toArray, List.set_cons_zero, List.set_cons_succ]
    refine Disk.z_run 11 2 (v := .int .i64 (sa - sb)) rfl rfl (by kernel_rfl) (by rfl) (w' := wt) (by go_simp; first | done | with_reducible rfl) (.inr hst) ?_
    simp only [List.setIfInBounds_toArray, List.set_cons_zero, List.set_cons_succ]
    refine Disk.z_done (by kernel_rfl) ?_ _
    clear hst
    go_wp2
    go_ret
    exact ⟨wret_int E.out.symm, hbe⟩

end Go.Proofs.Ytfcidgnjanidoaa
