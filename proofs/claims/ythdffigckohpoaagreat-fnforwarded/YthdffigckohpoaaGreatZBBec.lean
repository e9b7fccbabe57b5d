/- become of the program. -/
import Derived.Test.YthdffigckohpoaaGreatZBImpA
import Derived.Test.YthdffigckohpoaaGreatZU16
import Derived.Test.YthdffigckohpoaaGreatZU8
import Derived.Test.YthdffigckohpoaaGreatZU9
namespace Go.Proofs.YthdffigckohpoaaGreat
open Go.RowKit

theorem cW_next {h : Hp} {l : List Nat} (R : PartsAt h l) (hs : l.Pairwise (· < ·)) (f : Int → Int) {k : Nat} (hk : k < l.length) :
    cW f (cW f h.words (fldI h.words (l.take k))) (rngB (l.getD k 0 + 4) (gw h.words (l.getD k 0)).toNat) = cW f h.words (fldI h.words (l.take (k + 1))) := by
  have hm := lget_mem l k hk
  rw [cW_cW]
  · exact cW_congr fun j _ => (fldI_snoc _ _ _ hk j).symm
  · intro j _ hj
    rw [Bool.eq_false_iff]
    intro q
    have q' := of_decide_eq_true q
    have nm : l.getD k 0 ∉ l.take k := by
      intro z
      have hp := hs
      rw [← List.take_append_drop k l, List.pairwise_append] at hp
      have z2 : l.getD k 0 ∈ l.drop k := by
        rw [show l.getD k 0 = (l.drop k)[0]'(by simp; omega) from by simp [hk]]
        exact List.getElem_mem _
      have := hp.2.2 _ z _ z2
      omega
    rw [fld_apart R (fun b hb => List.mem_of_mem_take hb) hm nm q'.1 (by unfold nx; omega)] at hj
    cases hj

set_option maxRecDepth 100000 in
set_option maxHeartbeats 6400000 in
theorem become_c (F A B : Nat) (a b : Int) (f : Int → Int) (hF : F = 56 ∨ F = 47) (T : ThenF F A B a b f)
    (v : Value) (h : Hp) (w : World) (hv : HR w v h) (hwo : h.words.length ≤ 1000000000000) (hro : h.roots.length ≤ 1000000000000) (hke : h.kept.length ≤ 1000000000000)
    (hA : w.cell? ⟨A, 0, none⟩ = some (.int .i64 a)) (hB : w.cell? ⟨B, 0, none⟩ = some (.int .i64 b)) (hfit : refB h a = true → refB h b = true → ∀ x, fitB (obC h) x = true → fitB (obC h) (f x) = true) :
    Calls Tryz.prog 46 #[v, .int .i64 a, .int .i64 b, .func (.func F) #[] #[.pointer (some ⟨A, 0, none⟩), .pointer (some ⟨B, 0, none⟩)]] w fun e w' => (∃ u, e = .returned (.tuple #[u, .bool (befB h a b)]) ∧ HN w.heap.size w' u (beC f h a b)) ∧ Below w.heap.size w w' := by
  obtain ⟨v1, v2, v3, rfl, i1, i2, i3⟩ := id hv
  obtain ⟨a1, c1, rfl, -⟩ := IRs i1
  obtain ⟨a2, c2, rfl, -⟩ := IRs i2
  obtain ⟨a3, c3, rfl, -⟩ := IRs i3
  have ltA : A < w.heap.size := World.block_lt_of_cell? _ _ hA
  have ltB : B < w.heap.size := World.block_lt_of_cell? _ _ hB
  have hb0 : Below w.heap.size w ((w.alloc (.cells #[.slice a1 h.words.length c1, .slice a2 h.roots.length c2, .int .i64 h.old, .int .i64 h.eden, .int .i64 h.surv, .bool h.flip, .int .i64 h.hash, .slice a3 h.kept.length c3] 26)).alloc (.cells #[.slice none 0 0, .slice none 0 0, .int .i64 0, .int .i64 0, .int .i64 0, .bool false, .int .i64 0, .slice none 0 0] 26)) := bel_after (bel_one _ _) (bel_one _ _)
  obtain ⟨f0, R0⟩ : ∃ f0, ((w.alloc (.cells #[.slice a1 h.words.length c1, .slice a2 h.roots.length c2, .int .i64 h.old, .int .i64 h.eden, .int .i64 h.surv, .bool h.flip, .int .i64 h.hash, .slice a3 h.kept.length c3] 26)).alloc (.cells #[.slice none 0 0, .slice none 0 0, .int .i64 0, .int .i64 0, .int .i64 0, .bool false, .int .i64 0, .slice none 0 0] 26)).rowIs (w.heap.size + 1) 26 8 f0 := by
    have q := row_any (w.alloc (.cells #[.slice a1 h.words.length c1, .slice a2 h.roots.length c2, .int .i64 h.old, .int .i64 h.eden, .int .i64 h.surv, .bool h.flip, .int .i64 h.hash, .slice a3 h.kept.length c3] 26)) #[.slice none 0 0, .slice none 0 0, .int .i64 0, .int .i64 0, .int .i64 0, .bool false, .int .i64 0, .slice none 0 0] 26
    rw [World.size_alloc] at q
    exact ⟨_, q⟩
  have C := draftOf_c2 _ h _ (hv.later hb0) hwo hro hke
  clear i1 i2 i3
  go_enter Tryz.func46, Tryz.ntmps46
  go_wp2_with fail
  refine C.mono ?_
  rintro e w1 ⟨dr, hb1⟩
  have hbw1 := bel_after hb0 hb1
  have R1 := R0.of_block (hb1.block _ R0.lt)
  clear C R0
  rcases dr with ⟨hk, g1, g2, g3, oa, oc, rfl, ⟨q1, q2, q3⟩, ⟨l0, l1, l2⟩, io, farO, lowO⟩ | ⟨hk, rfl⟩
  case inr =>
    have al := bel_one w1 (.cells #[.slice none 0 0, .slice none 0 0, .slice none 0 0, .int .i64 0, .int .i64 0, .int .i64 0, .bool false, .int .i64 0, .slice none 0 0] 49)
    have hbA := bel_after hbw1 al
    have R2 := R1.of_block (al.block _ R1.lt)
    clear R1
    have AB : befB h a b = false := by unfold befB; rw [hk]; rfl
    have r0 := R2.cell (i := 0) (by omega)
    have r1 := R2.cell (i := 1) (by omega)
    have r2 := R2.cell (i := 2) (by omega)
    have r3 := R2.cell (i := 3) (by omega)
    have r4 := R2.cell (i := 4) (by omega)
    have r5 := R2.cell (i := 5) (by omega)
    have r6 := R2.cell (i := 6) (by omega)
    have r7 := R2.cell (i := 7) (by omega)
    have fR := fun i => R2.frozen i
    have ltR := R2.lt
    have B9 : Below w.heap.size w (((((((((w1.alloc (.cells #[.slice none 0 0, .slice none 0 0, .slice none 0 0, .int .i64 0, .int .i64 0, .int .i64 0, .bool false, .int .i64 0, .slice none 0 0] 49)).setCell ⟨w.heap.size + 1, 0, none⟩ (.slice none 0 0)).setCell ⟨w.heap.size + 1, 1, none⟩ (.slice none 0 0)).setCell ⟨w.heap.size + 1, 2, none⟩ (.int .i64 0)).setCell ⟨w.heap.size + 1, 3, none⟩ (.int .i64 0)).setCell ⟨w.heap.size + 1, 4, none⟩ (.int .i64 0)).setCell ⟨w.heap.size + 1, 5, none⟩ (.bool false)).setCell ⟨w.heap.size + 1, 6, none⟩ (.int .i64 0)).setCell ⟨w.heap.size + 1, 7, none⟩ (.slice none 0 0)) := by
      repeat (refine Below.setCell ?_ (p := ⟨w.heap.size + 1, _, none⟩) (Nat.le_succ _) _)
      exact hbA
    go_wp2
    exact bodyPost_ret (v := .tuple #[.agg #[.slice none 0 0, .slice none 0 0, .int .i64 0, .int .i64 0, .int .i64 0, .bool false, .int .i64 0, .slice none 0 0], .bool false]) (by simp [results, Tryz.results46, go_sem, r0, r1, r2, r3, r4, r5, r6, r7]) rfl ⟨⟨_, zero_ret AB (be_no AB)⟩, B9⟩
  have RG := c_right hk
  have hl := RG.1.1
  have l0' : w.heap.size + 1 + 1 ≤ g1 := by simpa using l0
  rw [hl] at q1 ⊢
  have HLN : Hid (h.words.length = 3200) := hl
  have al := bel_one w1 (.cells #[.slice (some ⟨g1, 0, none⟩) 3200 3200, .slice oa (obC h).length oc, .slice (some ⟨g2, 0, none⟩) h.roots.length h.roots.length, .int .i64 h.old, .int .i64 h.eden, .int .i64 h.surv, .bool h.flip, .int .i64 h.hash, .slice (some ⟨g3, 0, none⟩) h.kept.length h.kept.length] 49)
  have R2 := R1.of_block (al.block _ R1.lt)
  have D2 : DY (w1.alloc (.cells #[.slice (some ⟨g1, 0, none⟩) 3200 3200, .slice oa (obC h).length oc, .slice (some ⟨g2, 0, none⟩) h.roots.length h.roots.length, .int .i64 h.old, .int .i64 h.eden, .int .i64 h.surv, .bool h.flip, .int .i64 h.hash, .slice (some ⟨g3, 0, none⟩) h.kept.length h.kept.length] 49)) w1.heap.size (.slice (some ⟨g1, 0, none⟩) 3200 3200) (.slice oa (obC h).length oc) (.slice (some ⟨g2, 0, none⟩) h.roots.length h.roots.length) (.int .i64 h.old) (.int .i64 h.eden) (.int .i64 h.surv) (.bool h.flip) (.int .i64 h.hash) (.slice (some ⟨g3, 0, none⟩) h.kept.length h.kept.length) := DY.new w1 _ _ _ _ _ _ _ _ _
  have SO := ok_sorted hk
  have OL := ob_short h
  have IS := fun (x : Int) (W : World) (hb : Below w1.heap.size w1 W) => isObject_any _ (obC h) x W (io.later hb) SO (by omega)
  have ISA := IS a _ al
  rw [refL_ob] at ISA
  obtain ⟨d0, d1, d2, d3, d4, d5, d6, d7, d8, -⟩ := id D2
  clear hl
  go_wp2_with fail
  refine ISA.mono ?_
  rintro e w2 ⟨rfl, hb2⟩
  have hb12 := bel_after al hb2
  have hbw2 := bel_after hbw1 hb12
  have R3 := R2.of_block (hb2.block _ R2.lt)
  have D3 := D2.later hb2
  clear R2 D2 ISA hb2 d0 d1 d2 d3 d4 d5 d6 d7 d8 R1 al
  cases hra : refB h a
  · have AB : befB h a b = false := by unfold befB; rw [hk, hra]; rfl
    have r0 := R3.cell (i := 0) (by omega)
    have r1 := R3.cell (i := 1) (by omega)
    have r2 := R3.cell (i := 2) (by omega)
    have r3 := R3.cell (i := 3) (by omega)
    have r4 := R3.cell (i := 4) (by omega)
    have r5 := R3.cell (i := 5) (by omega)
    have r6 := R3.cell (i := 6) (by omega)
    have r7 := R3.cell (i := 7) (by omega)
    have fR := fun i => R3.frozen i
    have ltR := R3.lt
    have B9 : Below w.heap.size w ((((((((w2.setCell ⟨w.heap.size + 1, 0, none⟩ (.slice none 0 0)).setCell ⟨w.heap.size + 1, 1, none⟩ (.slice none 0 0)).setCell ⟨w.heap.size + 1, 2, none⟩ (.int .i64 0)).setCell ⟨w.heap.size + 1, 3, none⟩ (.int .i64 0)).setCell ⟨w.heap.size + 1, 4, none⟩ (.int .i64 0)).setCell ⟨w.heap.size + 1, 5, none⟩ (.bool false)).setCell ⟨w.heap.size + 1, 6, none⟩ (.int .i64 0)).setCell ⟨w.heap.size + 1, 7, none⟩ (.slice none 0 0)) := by
      repeat (refine Below.setCell ?_ (p := ⟨w.heap.size + 1, _, none⟩) (Nat.le_succ _) _)
      exact hbw2
    obtain ⟨d0, d1, d2, d3, d4, d5, d6, d7, d8, -⟩ := D3
    go_wp2
    exact bodyPost_ret (v := .tuple #[.agg #[.slice none 0 0, .slice none 0 0, .int .i64 0, .int .i64 0, .int .i64 0, .bool false, .int .i64 0, .slice none 0 0], .bool false]) (by simp [results, Tryz.results46, go_sem, r0, r1, r2, r3, r4, r5, r6, r7]) rfl ⟨⟨_, zero_ret AB (be_no AB)⟩, B9⟩
  have ISB := IS b _ hb12
  rw [refL_ob] at ISB
  obtain ⟨d0, d1, d2, d3, d4, d5, d6, d7, d8, -⟩ := id D3
  go_wp2_with fail
  refine ISB.mono ?_
  rintro e w3 ⟨rfl, hb3⟩
  have hb13 := bel_after hb12 hb3
  have hbw3 := bel_after hbw2 hb3
  have R4 := R3.of_block (hb3.block _ R3.lt)
  have D4 := D3.later hb3
  clear R3 D3 ISB IS hb3 d0 d1 d2 d3 d4 d5 d6 d7 d8
  cases hrb : refB h b
  · have AB : befB h a b = false := by unfold befB; rw [hk, hra, hrb]; rfl
    have r0 := R4.cell (i := 0) (by omega)
    have r1 := R4.cell (i := 1) (by omega)
    have r2 := R4.cell (i := 2) (by omega)
    have r3 := R4.cell (i := 3) (by omega)
    have r4 := R4.cell (i := 4) (by omega)
    have r5 := R4.cell (i := 5) (by omega)
    have r6 := R4.cell (i := 6) (by omega)
    have r7 := R4.cell (i := 7) (by omega)
    have fR := fun i => R4.frozen i
    have ltR := R4.lt
    have B9 : Below w.heap.size w ((((((((w3.setCell ⟨w.heap.size + 1, 0, none⟩ (.slice none 0 0)).setCell ⟨w.heap.size + 1, 1, none⟩ (.slice none 0 0)).setCell ⟨w.heap.size + 1, 2, none⟩ (.int .i64 0)).setCell ⟨w.heap.size + 1, 3, none⟩ (.int .i64 0)).setCell ⟨w.heap.size + 1, 4, none⟩ (.int .i64 0)).setCell ⟨w.heap.size + 1, 5, none⟩ (.bool false)).setCell ⟨w.heap.size + 1, 6, none⟩ (.int .i64 0)).setCell ⟨w.heap.size + 1, 7, none⟩ (.slice none 0 0)) := by
      repeat (refine Below.setCell ?_ (p := ⟨w.heap.size + 1, _, none⟩) (Nat.le_succ _) _)
      exact hbw3
    obtain ⟨d0, d1, d2, d3, d4, d5, d6, d7, d8, -⟩ := D4
    go_wp2
    exact bodyPost_ret (v := .tuple #[.agg #[.slice none 0 0, .slice none 0 0, .int .i64 0, .int .i64 0, .int .i64 0, .bool false, .int .i64 0, .slice none 0 0], .bool false]) (by simp [results, Tryz.results46, go_sem, r0, r1, r2, r3, r4, r5, r6, r7]) rfl ⟨⟨_, zero_ret AB (be_no AB)⟩, B9⟩
  have AB : befB h a b = true := by unfold befB; rw [hk, hra, hrb]; rfl
  have FIT := hfit hra hrb
  have RL : h.roots.length ≤ 20 := RG.2.2.2.2.2.1
  have ltg1 := q1.lt
  have ltg2 := q2.lt
  have CR := changeEach_any F A B a b f hF T g2 0 h.roots.length h.roots.length h.roots.length h.roots w3 (q2.later hb13) (.inr (by omega)) (by omega) (by omega) (by omega) (cell_later hbw3 hA) (cell_later hbw3 hB)
  rw [cW_all] at CR
  obtain ⟨d0, d1, d2, d3, d4, d5, d6, d7, d8, -⟩ := id D4
  clear hfit hra hrb hv
  go_wp2_with fail
  refine CR.mono ?_
  rintro e w4 ⟨rfl, RT, G4⟩
  have GR4 : Grew w3 w4 (fun z => z = g1 ∨ z = g2) := (Grew.grown G4).mono (fun z _ e => .inr (Option.some.inj e).symm)
  have q1' := (q1.later hb13).grown G4 (by simp; omega)
  have io3 := io.later hb13
  have sz13 := hb13.size
  have sz01 := hbw1.size
  have ltD4 := D4.lt
  clear CR d0 d1 d2 d3 d4 d5 d6 d7 d8 G4 q1 q3
  obtain ⟨ua, uc, e1, hc⟩ := intsI io3
  simp only [Value.slice.injEq, true_and] at e1
  obtain ⟨rfl, rfl⟩ := e1
  have D5 := D4.block (GR4.block _ D4.lt (by omega))
  obtain ⟨d0, d1, d2, d3, d4, d5, d6, d7, d8, -⟩ := id D5
  go_wp2
  go_loopw [46] (fun iv wr => ∃ k : Nat, iv = .int .i64 k ∧ k ≤ (obC h).length ∧ RI wr g1 (cW f h.words (fldI h.words ((obC h).take k))) 3200 ∧ RI wr g2 (h.roots.map f) h.roots.length ∧ Grew w3 wr (fun z => z = g1 ∨ z = g2)) (fun iv _ => (obC h).length - (intOf iv).toNat)
  case atStart => exact ⟨0, rfl, Nat.zero_le _, by rw [List.take_zero, cW_id (fun j _ e => by simp [fldI] at e)]; exact q1', RT, GR4⟩
  case round =>
    clear d0 d1 d2 d3 d4 d5 d6 d7 d8 q1' RT GR4 D5
    obtain ⟨k, rfl, hkl, RW, RT, GW⟩ := hrel
    have DW := D4.block (GW.block _ D4.lt (by omega))
    obtain ⟨d0, d1, d2, d3, d4, d5, d6, d7, d8, -⟩ := id DW
    by_cases hlt : k < (obC h).length
    · obtain ⟨b', o', e', hci⟩ := hc k hlt
      have far : b' < g1 := farO ⟨b', o', none⟩ _ _ (by rw [e']) (by omega)
      subst e'
      have ci := GW.cell hci (by omega)
      have hm := lget_mem (obC h) k hlt
      obtain ⟨o1, o2, o3⟩ := RG.1.obj hm
      have sz := size_of o3
      obtain ⟨n, hn⟩ := Int.eq_ofNat_of_zero_le sz.1
      have n60 : n ≤ 60 := by omega
      have hh := cw_head RG.1 f (m := (obC h).take k) (fun b hb => List.mem_of_mem_take hb) hm (k := 0) (by omega)
      rw [Nat.add_zero] at hh
      have hnx := cw_nx RG.1 f (m := (obC h).take k) (fun b hb => List.mem_of_mem_take hb) hm
      have hlW : (cW f h.words (fldI h.words ((obC h).take k))).length = 3200 := by rw [cW_length, HLN.out]
      have FA := fieldsAt_w g1 3200 (cW f h.words (fldI h.words ((obC h).take k))) ((obC h).getD k 0) n wr (fun i hi => by rw [Nat.zero_add]; exact RW.cell hi) hlW (Nat.le_refl _) o1 (by rw [hh, hn]) n60 (by rw [hnx]; exact o2)
      have NXT := cW_next RG.1 SO f hlt
      rw [hn] at NXT
      have hq2 : (obC h).getD k 0 + 4 + n ≤ 3200 := by unfold nx at o2; rw [hn] at o2; exact o2
      have CE := fun q c (hq : n = 0 ∨ q = (obC h).getD k 0 + 4) => changeEach_any F A B a b f hF T g1 q n 3200 c (cW f h.words (fldI h.words ((obC h).take k))) wr RW (by omega) (by omega) (by omega) (by omega) (GW.cell (cell_later hbw3 hA) (by omega)) (GW.cell (cell_later hbw3 hB) (by omega))
      have STEP : Hid (∀ q, (n = 0 ∨ q = (obC h).getD k 0 + 4) → cW f (cW f h.words (fldI h.words ((obC h).take k))) (rngB q n) = cW f h.words (fldI h.words ((obC h).take (k + 1)))) := fun q hq => by
        rcases hq with e | e
        · subst e
          rw [cW_zero, ← NXT]
          exact (cW_zero _ _ _).symm
        · subst e
          exact NXT
      have hsz := GW.size
      clear hci o1 o2 o3 sz hh hnx hlW NXT hn
      generalize (obC h).getD k 0 = at5 at *
      go_wp2_with fail
      refine FA.mono ?_
      rintro e wq ⟨⟨q, c, rfl, -, hq0⟩, hwq⟩
      obtain rfl := hwq.symm
      go_wp2_with fail
      refine (CE q c hq0).mono ?_
      rintro e w6 ⟨rfl, R6, G6⟩
      rw [STEP.out q hq0] at R6
      have RT6 := RT.grown G6 (by simp; omega)
      have GW6 := GW.trans' (Grew.grown G6) (fun z e => .inl (.inl (Option.some.inj e).symm))
      clear d0 d1 d2 d3 d4 d5 d6 d7 d8
      obtain ⟨d0, d1, d2, d3, d4, d5, d6, d7, d8, -⟩ := D4.block (GW6.block _ D4.lt (by omega))
      go_wp2
      exact ⟨⟨k + 1, by go_num, by omega, R6, RT6, GW6⟩, by simp [intOf]; omega⟩
    · obtain rfl : k = (obC h).length := by omega
      rw [List.take_length] at RW
      have RB := be_right hk f FIT
      have WSr : WS wr g1 0 (beW f h) := fun i hi => by rw [Nat.zero_add]; exact RW.cell hi
      have LB : (beW f h).length = 3200 := by rw [beW_length, HLN.out]
      have ior : IR wr (.slice oa (obC h).length oc) (ints (obC h)) := io3.keep' (fun ad n c e hp => GW.block _ (by have := farO ad n c e hp; omega) (by have := farO ad n c e hp; omega))
      have KO := keptObjects_own g1 0 3200 (.slice oa (obC h).length oc) (beW f h) (obC h) wr WSr LB (Nat.le_refl _) ior OL (fun x hx => ⟨(RB.1.obj hx).1, (RB.1.obj hx).2.1, objB_of (RB.1.obj hx).2.2 (RB.2.2.2.1 x hx)⟩)
      have hszr := GW.size
      have R5 := R4.of_block (GW.block _ R4.lt (by omega))
      have BLr : Below w.heap.size w wr := hbw3.trans (GW.below (by omega) (fun z _ e => by omega))
      go_wp2_with fail
      refine KO.mono ?_
      rintro e w5 ⟨⟨kv, rfl, ok⟩, hb5⟩
      obtain ⟨ao3, cc3, e3, -⟩ := IRs (IR_of_owns ok)
      subst e3
      have HKS : Hid (keptOf (beW f h) (obC h) = (beH f h).kept) := (rfl : _ = _)
      generalize keptOf (beW f h) (obC h) = ks at *
      have D6 := DW.later hb5
      have fz8 := fun j => D6.frozen j
      have D7 := D6.set8 (.slice ao3 ks.length cc3)
      have R7 := (R5.of_block (hb5.block _ R5.lt)).setOther (a := ⟨w1.heap.size, 8, none⟩) (by show w.heap.size + 1 ≠ w1.heap.size; omega) (.slice ao3 ks.length cc3)
      have W7 := (RW.later hb5).setOther (b := w1.heap.size) (i := 8) (by omega) (.slice ao3 ks.length cc3)
      have T7 := (RT.later hb5).setOther (b := w1.heap.size) (i := 8) (by omega) (.slice ao3 ks.length cc3)
      have O7 : (w5.setCell ⟨w1.heap.size, 8, none⟩ (.slice ao3 ks.length cc3)).ownsRow wr.heap.size 2 1 (.slice ao3 ks.length cc3) ks.length (icells ks) := own_blockY ok (fun b hb => Below.heap_setCell _ _ _ _ (by show b ≠ w1.heap.size; omega))
      have B7 := (bel_after BLr hb5).setCell (p := ⟨w1.heap.size, 8, none⟩) (by show w.heap.size ≤ w1.heap.size; omega) (.slice ao3 ks.length cc3)
      clear d0 d1 d2 d3 d4 d5 d6 d7 d8 KO
      obtain ⟨d0, d1, d2, d3, d4, d5, d6, d7, d8, -⟩ := id D7
      obtain ⟨k0, k1, k2, k3, k4, k5, k6, k7, k8, -⟩ := id D6
      have DH := fun W => draftHeap_any (some ⟨g1, 0, none⟩) (some ⟨g2, 0, none⟩) ao3 oa 3200 h.roots.length ks.length (obC h).length 3200 h.roots.length cc3 oc h.old h.eden h.surv h.hash h.flip W
      clear D6 R5 hc WSr ior RB BLr
      go_wp2_with fail
      refine (DH (w5.setCell ⟨w1.heap.size, 8, none⟩ (.slice ao3 ks.length cc3))).mono ?_
      generalize w5.setCell ⟨w1.heap.size, 8, none⟩ (.slice ao3 ks.length cc3) = w6 at *
      rintro e w7 ⟨rfl, hb7⟩
      have RA := R7.of_block (hb7.block _ R7.lt)
      have bel9 := bel_after B7 hb7
      have OKC : (#[.slice (some ⟨g1, 0, none⟩) 3200 3200, .slice (some ⟨g2, 0, none⟩) h.roots.length h.roots.length, .int .i64 h.old, .int .i64 h.eden, .int .i64 h.surv, .bool h.flip, .int .i64 h.hash, .slice ao3 ks.length cc3] : Array Value).all (·.oneCell') = true := by simp [Value.oneCell']
      clear d0 d1 d2 d3 d4 d5 d6 d7 d8 k0 k1 k2 k3 k4 k5 k6 k7 k8 fz8 D7
      go_wp2_with ((with_reducible refine store_box _ ?_ (.tmp 8) (.tmp 67) 26 ?_ 26 (w.heap.size + 1) 8 #[.slice (some ⟨g1, 0, none⟩) 3200 3200, .slice (some ⟨g2, 0, none⟩) h.roots.length h.roots.length, .int .i64 h.old, .int .i64 h.eden, .int .i64 h.surv, .bool h.flip, .int .i64 h.hash, .slice ao3 ks.length cc3] f0 ?_ ?_ RA ?_ ?_ OKC ?_); rfl; rfl; rfl; rfl; rfl; kernel_rfl; intro wA KA GA; have r0 : wA.cell? ⟨w.heap.size + 1, 0, none⟩ = some (.slice (some ⟨g1, 0, none⟩) 3200 3200) := KA.cell (i := 0) (by omega); have r1 : wA.cell? ⟨w.heap.size + 1, 1, none⟩ = some (.slice (some ⟨g2, 0, none⟩) h.roots.length h.roots.length) := KA.cell (i := 1) (by omega); have r2 : wA.cell? ⟨w.heap.size + 1, 2, none⟩ = some (.int .i64 h.old) := KA.cell (i := 2) (by omega); have r3 : wA.cell? ⟨w.heap.size + 1, 3, none⟩ = some (.int .i64 h.eden) := KA.cell (i := 3) (by omega); have r4 : wA.cell? ⟨w.heap.size + 1, 4, none⟩ = some (.int .i64 h.surv) := KA.cell (i := 4) (by omega); have r5 : wA.cell? ⟨w.heap.size + 1, 5, none⟩ = some (.bool h.flip) := KA.cell (i := 5) (by omega); have r6 : wA.cell? ⟨w.heap.size + 1, 6, none⟩ = some (.int .i64 h.hash) := KA.cell (i := 6) (by omega); have r7 : wA.cell? ⟨w.heap.size + 1, 7, none⟩ = some (.slice ao3 ks.length cc3) := KA.cell (i := 7) (by omega))
      have BA : Below w.heap.size w wA := Below.grown bel9 GA bel9.size (fun q hq => by cases hq; omega)
      have HFN : HN w.heap.size wA (.agg #[.slice (some ⟨g1, 0, none⟩) 3200 3200, .slice (some ⟨g2, 0, none⟩) h.roots.length h.roots.length, .int .i64 h.old, .int .i64 h.eden, .int .i64 h.surv, .bool h.flip, .int .i64 h.hash, .slice ao3 ks.length cc3]) (beC f h a b) := by
        rw [be_yes AB]
        have oA : wA.ownsRow wr.heap.size 2 1 (.slice ao3 ks.length cc3) (beH f h).kept.length (icells (beH f h).kept) := by
          rw [← HKS.out]
          exact (Grew.grown GA).own (own_later O7 hb7) (fun z e1 e2 => by have := ((own_later O7 hb7).lt z e1).1; have := Option.some.inj e2; omega)
        have q := HN.of_own3Y (h := beH f h) (B := w.heap.size) ((W7.later hb7).grown GA (by intro e; cases e; omega)) ((T7.later hb7).grown GA (by intro e; cases e; omega)) oA (by omega) (by omega) (by omega) (by omega) (by omega) (by omega)
        rw [show (beH f h).words.length = 3200 from LB, show (beH f h).roots.length = h.roots.length from List.length_map ..] at q
        exact q
      exact bodyPost_ret (v := .tuple #[.agg #[.slice (some ⟨g1, 0, none⟩) 3200 3200, .slice (some ⟨g2, 0, none⟩) h.roots.length h.roots.length, .int .i64 h.old, .int .i64 h.eden, .int .i64 h.surv, .bool h.flip, .int .i64 h.hash, .slice ao3 ks.length cc3], .bool true]) (by simp [results, Tryz.results46, go_sem, r0, r1, r2, r3, r4, r5, r6, r7]) rfl ⟨⟨_, by rw [AB], HFN⟩, BA⟩

end Go.Proofs.YthdffigckohpoaaGreat
