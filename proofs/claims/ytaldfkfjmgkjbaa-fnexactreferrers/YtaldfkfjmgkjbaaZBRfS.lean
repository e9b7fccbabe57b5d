/- Referrers of the model. -/
import Derived.Test.YtaldfkfjmgkjbaaZBRf
import Derived.Test.YtaldfkfjmgkjbaaZGGrew
import Derived.Test.YtaldfkfjmgkjbaaZMApp
import Derived.Deep.QuietTactic
namespace Go.Proofs.Ytaldfkfjmgkjbaa
open Go.RowKit

theorem nil_own (w : World) : (w.alloc (.cells #[] 2)).ownsRow w.heap.size 2 1 (.slice (some ⟨w.heap.size, 0, none⟩) 0 0) 0 [] := (empty_ri w).owns (Nat.le_refl _) (by decide)
theorem flds_get {W : List Int} {a m n : Nat} (hn : gw W a = (n : Int)) (h : m < n) : (flds W a).getD m 0 = gw W (a + 4 + m) := by
  unfold flds
  rw [hn]
  simp [h]

set_option maxRecDepth 100000 in
set_option maxHeartbeats 3200000 in
theorem specReferrers_c (v : Value) (h : Hp) (x : Int) (w : World) (hv : HR w v h) (hro : h.roots.length ≤ 1000000000000) (hke : h.kept.length ≤ 1000000000000) (hx : In64 x) :
    Calls Try.prog 15 #[v, .int .i64 x] w fun e w' => (∃ u, e = .returned u ∧ w'.ownsRow w.heap.size 2 1 u (rfC h x).length (icells (ints (rfC h x)))) ∧ Below w.heap.size w w' := by
  obtain ⟨v1, v2, v3, rfl, i1, i2, i3⟩ := id hv
  have hb0 := bel_one w (.cells #[v1, v2, .int .i64 h.old, .int .i64 h.eden, .int .i64 h.surv, .bool h.flip, .int .i64 h.hash, v3] 26)
  have X0 := Bx.new w v1 v2 v3 h 26
  have O0 := nil_own (w.alloc (.cells #[v1, v2, .int .i64 h.old, .int .i64 h.eden, .int .i64 h.surv, .bool h.flip, .int .i64 h.hash, v3] 26))
  have al0 := bel_one (w.alloc (.cells #[v1, v2, .int .i64 h.old, .int .i64 h.eden, .int .i64 h.surv, .bool h.flip, .int .i64 h.hash, v3] 26)) (.cells #[] 2)
  have hb1 := bel_after hb0 al0
  have X1 := X0.later al0
  have C := specHeapOk_c _ h _ (hv.later hb1) hro hke
  rw [World.size_alloc] at O0
  have NIL : Hid (rfC h x = [] → ∀ (W : World) (u : Value), W.ownsRow (w.heap.size + 1) 2 1 u 0 [] → W.ownsRow w.heap.size 2 1 u (rfC h x).length (icells (ints (rfC h x)))) := fun e W u q => by
    rw [e]
    exact own_lowR q (Nat.le_succ _)
  clear i2 i3 X0
  cases hk : okC h
  · have N := NIL.out (rf_no hk)
    rw [hk] at C
    obtain ⟨x0, x1, x2, x3, x4, x5, x6, x7⟩ := X1
    clear i1 NIL
    go_enter Try.func15, Try.ntmps15
    go_wp2_with fail
    refine C.mono ?_
    rintro e w1 ⟨rfl, hb2⟩
    have O1 := own_later O0 hb2
    go_wp2
    exact bodyPost_ret (v := .slice (some ⟨w.heap.size + 1, 0, none⟩) 0 0) (by simp [results, Try.results15, go_sem]) rfl ⟨⟨_, rfl, N _ _ O1⟩, bel_after hb1 hb2⟩
  · have R := c_right hk
    rw [hk] at C
    obtain ⟨b, o, cap, rfl, hcap, hW⟩ := i1.ws (by have := R.1.1; omega)
    have HLN : Hid (h.words.length = 3200) := R.1.1
    rw [R.1.1] at hcap C X1 hb0 hb1 O0 hv al0 ⊢
    have L8 := fun W (hb : Below w.heap.size w W) => l8At_c _ h x W (hv.later hb) hk hx
    have PP := R.1
    have AL := fun W (hb : Below w.heap.size w W) => l5All_any _ h W (hv.later hb)
    have OL := ob_short h
    have AT : Hid (atC h x = if refB h x = true then x / 2 else -1) := (rfl : _ = _)
    have RY : Hid (refB h x = true → rfC h x = rfS h.words x (obC h)) := fun q => rf_yes hk q
    have OBJ : Hid (∀ a, a ∈ obC h → a + 4 ≤ 3200 ∧ nx h.words a ≤ 3200 ∧ headB h.words a = true) := fun a ha => R.1.obj ha
    have POS : Hid (refB h x = true → ¬ x / 2 < 0) := fun q => by
      obtain ⟨_, a, _, e⟩ := ref_mem q
      omega
    generalize atC h x = at8 at *
    clear i1 R hk
    obtain ⟨x0, x1, x2, x3, x4, x5, x6, x7⟩ := id X1
    go_enter Try.func15, Try.ntmps15
    go_wp2_with fail
    refine C.mono ?_
    rintro e w1 ⟨rfl, hb2⟩
    have hbw1 := bel_after hb1 hb2
    have O1 := own_later O0 hb2
    have X2 := X1.later hb2
    clear C O0 X1 x0 x1 x2 x3 x4 x5 x6 x7 hb2 hb1 hb0 al0
    obtain ⟨x0, x1, x2, x3, x4, x5, x6, x7⟩ := id X2
    go_wp2_with fail
    refine (L8 _ hbw1).mono ?_
    rintro e w2 ⟨rfl, hb3⟩
    have hbw2 := bel_after hbw1 hb3
    have O2 := own_later O1 hb3
    have X3 := X2.later hb3
    clear L8 O1 X2 x0 x1 x2 x3 x4 x5 x6 x7 hb3 hbw1
    cases hr : refB h x
    · have N := NIL.out (rf_no2 hr)
      rw [hr] at AT
      obtain rfl : at8 = -1 := AT.out
      obtain ⟨x0, x1, x2, x3, x4, x5, x6, x7⟩ := X3
      clear NIL
      go_wp2
      exact bodyPost_ret (v := .slice (some ⟨w.heap.size + 1, 0, none⟩) 0 0) (by simp [results, Try.results15, go_sem]) rfl ⟨⟨_, rfl, N _ _ O2⟩, hbw2⟩
    · have E : Hid (rfC h x = rfS h.words x (obC h)) := RY.out hr
      have hp := POS.out hr
      rw [hr] at AT
      obtain rfl : at8 = x / 2 := AT.out
      generalize x / 2 = at8 at *
      obtain ⟨x0, x1, x2, x3, x4, x5, x6, x7⟩ := id X3
      clear NIL RY hr POS AT
      go_wp2_with fail
      refine (AL _ hbw2).mono ?_
      rintro e w3 ⟨⟨l', lv, -, rfl, ho, hP⟩, hb4⟩
      obtain rfl : l' = obC h := (hP _ PP).eq PP
      have hbw3 := bel_after hbw2 hb4
      have il := IR_of_owns' ho
      have lowL := own_low2 ho
      have R3 := (RI.of_owns (l := []) (own_later O2 hb4)).1
      have c03 := (X3.later hb4).c0
      have hW3 := hW.later hbw3
      have bW : b < w.heap.size := World.block_lt_of_cell? _ _ (hW 0 (by rw [HLN.out]; omega))
      obtain ⟨ua, uc, rfl, hc⟩ := intsI il
      have sz3 := hbw3.size
      have lt1 : w.heap.size + 1 < w2.heap.size := (RI.of_owns (l := []) O2).1.lt
      have sz4 := hb4.size
      have LOW : ∀ (b' o' : Nat), ua = some ⟨b', o', none⟩ → 0 < (obC h).length → w.heap.size + 1 < b' := fun b' o' e q => by
        subst e
        have := lowL _ _ _ rfl q
        exact Nat.lt_of_lt_of_le lt1 this
      clear AL X3 x0 x1 x2 x3 x4 x5 x6 x7 hb4 hbw2 il hW O2 hv ho hP lowL PP
      generalize obC h = l at *
      generalize h.words = W at *
      go_wp2
      go_loopw [5, 7] (fun ov iv wr => ∃ (k g c : Nat), iv = .int .i64 k ∧ ov = .slice (some ⟨g, 0, none⟩) (rfS W x (l.take k)).length c ∧ k ≤ l.length ∧ RI wr g (ints (rfS W x (l.take k))) c ∧ c ≤ maxLen ∧ (g = w.heap.size + 1 ∨ w3.heap.size ≤ g) ∧ Grew w3 wr (fun z => z = w.heap.size + 1)) (fun _ iv _ => l.length - (intOf iv).toNat)
      case atStart => exact ⟨0, _, _, rfl, rfl, Nat.zero_le _, R3, by decide, .inl rfl, Grew.refl _ _⟩
      case round =>
        obtain ⟨k, g, c, rfl, rfl, hk, RO, hcm, hg, GW⟩ := hrel
        by_cases hlt : k < l.length
        · obtain ⟨b', o', e', hci⟩ := hc k hlt
          have nb := LOW b' o' e' (by omega)
          subst e'
          have ci := GW.cell hci (fun z => by omega)
          have c0 := GW.cell c03 (fun z => by omega)
          obtain ⟨q1, q2, q3⟩ := OBJ.out _ (lget_mem l k hlt)
          have KS := rfS_snoc W x l k hlt
          have hlk := rfS_short W x l k OL
          have sz := size_of q3
          obtain ⟨n, hn⟩ := Int.eq_ofNat_of_zero_le sz.1
          have n60 : n ≤ 60 := by omega
          have hnx : l.getD k 0 + 4 + n ≤ 3200 := by unfold nx at q2; rw [hn] at q2; exact q2
          have FG := fun m (h : m < n) => flds_get (W := W) (a := l.getD k 0) hn h
          have FL : (flds W (l.getD k 0)).length = n := by rw [flds_length, hn]; rfl
          have hWr : ∀ i, i < 3200 → wr.cell? ⟨b, o + i, none⟩ = some (.int .i64 (gw W i)) := fun i hi => GW.cell (hW3 i (by rw [HLN.out]; exact hi)) (fun z => by omega)
          have ca := hWr (l.getD k 0) (by omega)
          rw [hn] at ca
          have rl := ints_length (rfS W x (l.take k))
          clear hci q1 q2 q3 sz hn
          generalize l.getD k 0 = a at *
          have HF : Hid ((flds W a).length = n) := FL
          have HG : Hid (∀ m, m < n → (flds W a).getD m 0 = gw W (a + 4 + m)) := FG
          have HK : Hid (rfS W x (l.take (k + 1)) = if (flds W a).contains x = true then rfS W x (l.take k) ++ [a] else rfS W x (l.take k)) := KS
          have lta : (a : Int) < 3200 := by omega
          have ltk : (k : Int) < (l.length : Int) := by omega
          generalize hks : rfS W x (l.take k) = ks at *
          clear KS FL FG hks
          go_wp2
          go_loopw [5, 8] (fun ov kv wq => ∃ m d : Nat, kv = .int .i64 ((a : Int) + 4 + m) ∧ ov = .slice (some ⟨g, 0, none⟩) ks.length c ∧ m ≤ n ∧ Hid (∀ j, j < m → ¬ (flds W a).getD j 0 = x) ∧ wq = wr.drewN d) (fun _ kv _ => (a + 4 + n) - (intOf kv).toNat)
          case atStart => exact ⟨0, 0, by simp, rfl, Nat.zero_le _, fun j hj => by omega, rfl⟩
          case round =>
            obtain ⟨m, d, rfl, rfl, hm, hj, rfl⟩ := hrel
            by_cases hmn : m < n
            · have cx := hWr (a + 4 + m) (by omega)
              rw [← HG.out m hmn] at cx
              have NX : Hid (¬ (flds W a).getD m 0 = x → ∀ j, j < m + 1 → ¬ (flds W a).getD j 0 = x) := fun e => all_upto hj.out e
              have IN : Hid ((flds W a).getD m 0 = x → (flds W a).contains x = true) := fun e => List.contains_iff_mem.2 (by rw [← e]; simp [HF.out, hmn])
              have D1 : decide ((a : Int) + 4 + m < (a : Int) + 4 + n) = true := decide_eq_true (by omega)
              clear hj hWr
              generalize (flds W a).getD m 0 = y at *
              by_cases hy : y = x
              · have G := IN.out hy
                have D : (y == x) = true := by simp [hy]
                have K1 : Hid (rfS W x (l.take (k + 1)) = ks ++ [a]) := (by rw [HK.out, if_pos G] : rfS W x (l.take (k + 1)) = ks ++ [a])
                have ROd : ∀ d' : Nat, RI ((wr.drewN d').alloc (.cells #[.int .i64 (a : Int)] 2)) g (ints ks) c := fun d' => (RO.later (below_drewN (Below.refl _ _) d')).later (bel_one _ _)
                have I1 : ∀ d' : Nat, IR ((wr.drewN d').alloc (.cells #[.int .i64 (a : Int)] 2)) (.slice (some ⟨wr.heap.size, 0, none⟩) 1 1) [(a : Int)] := fun d' => ⟨_, 1, rfl, by simp, fun i hi => ⟨_, 0, rfl, by
                  have : i = 0 := by simpa using hi
                  subst this
                  exact cell_new (wr.drewN d') _ _ _ (by simp) 0 _ rfl⟩⟩
                have GWd : ∀ d' : Nat, Grew w3 ((wr.drewN d').alloc (.cells #[.int .i64 (a : Int)] 2)) (fun z => z = w.heap.size + 1) := fun d' => GW.trans (Grew.new (bel_after (below_drewN (Below.refl _ _) d') (bel_one _ _)) _)
                clear NX IN hy HK HG HF G hc c03 hW3
                go_wp2
                go_quiet (fail)
                go_wp2_with (at_builtin; refine app_ri _ rfl _ _ rfl g c ks.length (ints ks) rfl rl.symm (ROd _) (by omega) hcm _ _ 1 [(a : Int)] rfl rfl (I1 _) (by simp) ?_; intro g1 c1 w4 R4 G4 wh4 mx4)
                have GF : Grew w3 w4 (fun z => z = w.heap.size + 1) := (GWd _).trans' (Grew.grown G4) (fun z e => by have := Option.some.inj e; omega)
                have hs4 := (GWd (d + 1)).size
                exact ⟨⟨k + 1, g1, c1, by go_num, by rw [K1.out]; simp, by omega, by rw [K1.out]; simpa [ints] using R4, mx4, by have := GW.size; rcases wh4 with e | e <;> simp at * <;> omega, GF⟩, by simp [intOf]; omega⟩
              · have N := NX.out hy
                have D : (y == x) = false := by simp [hy]
                clear NX IN hy
                go_wp2
                go_quiet (fail)
                go_wp2
                exact ⟨⟨m + 1, _, by go_num, rfl, by omega, N, rfl⟩, by simp [intOf]; omega⟩
            · obtain rfl : m = n := by omega
              have G : (flds W a).contains x = false := notin_upto (by rw [HF.out]; exact hj.out)
              have K1 : Hid (rfS W x (l.take (k + 1)) = ks) := (by rw [HK.out, if_neg (by rw [G]; simp)] : rfS W x (l.take (k + 1)) = ks)
              have D1 : decide ((a : Int) + 4 + m < (a : Int) + 4 + m) = false := decide_eq_false (by omega)
              clear HK HG HF G hj hWr
              go_wp2
              go_quiet (fail)
              go_wp2
              exact ⟨⟨k + 1, g, c, by go_num, by rw [K1.out], by omega, by rw [K1.out]; exact RO.later (below_drewN (Below.refl _ _) _), hcm, hg, GW.trans (Grew.new (below_drewN (Below.refl _ _) _) _)⟩, by simp [intOf]; omega⟩
        · obtain rfl : k = l.length := by omega
          have K1 : Hid (rfS W x (l.take l.length) = rfC h x) := (by rw [List.take_length, E.out] : rfS W x (l.take l.length) = rfC h x)
          have rl := ints_length (rfS W x (l.take l.length))
          have BF : Below w.heap.size w wr := hbw3.trans (GW.below (by omega) (fun z _ e => by omega))
          have OW := RO.owns (B := w.heap.size) (by omega) hcm
          rw [rl, K1.out] at OW
          rw [K1.out]
          go_wp2
          exact bodyPost_ret (v := .slice (some ⟨g, 0, none⟩) (rfC h x).length c) (by simp [results, Try.results15, go_sem]) rfl ⟨⟨_, rfl, OW⟩, BF⟩

end Go.Proofs.Ytaldfkfjmgkjbaa
