import Derived.Test.YtfcidgnjanidoaaZCSpec
import Derived.Test.YtfcidgnjanidoaaZU13
import Derived.Test.YtfcidgnjanidoaaZU15
/- Compact of the model, in one word. -/
namespace Go.Proofs.Ytfcidgnjanidoaa
open Go.RowKit

noncomputable def coB (h : Hp) : Bool := okC h && decide (szS h.words (rchL h) ≤ 2000)
/-- The compacted heap. -/
noncomputable def coP (h : Hp) : Hp := { words := outW h.words (plF h.words (rchL h) (rchL h).length) (rchL h) ++ List.replicate (3200 - (outW h.words (plF h.words (rchL h) (rchL h).length) (rchL h)).length) 0, roots := h.roots.map (rnM (plF h.words (rchL h) (rchL h).length)), old := szS h.words (rchL h), eden := 2000, surv := 2600, flip := false, hash := h.hash, kept := [] }
noncomputable def coC (h : Hp) : Hp := if coB h = true then coP h else zeroH
theorem co_same {h : Hp} (k : okC h = true) {i : Nat} (e : i = (rcS h i).1.length) (hf : szS h.words (rchL h) ≤ 2000) : coH h (obC h) (gtS h.words (rcS h i).2 (obC h) (obC h).length).1 (gtS h.words (rcS h i).2 (obC h) (obC h).length).2 = coP h := by
  have M := (mv_spec k e).1
  have sz := outW_size (plF h.words (rchL h) (rchL h).length) (l := rchL h) (fun a ha => ((rch_obs k).2 a ha).2.1)
  unfold coH coP
  rw [co_words k e (by omega), co_roots k e, M]
theorem co_short (h : Hp) : (coC h).words.length ≤ 1000000000 ∧ (coC h).roots.length ≤ 1000000000 ∧ (coC h).kept.length ≤ 1000000000 := by
  unfold coC
  split
  · rename_i hb
    unfold coB at hb
    simp only [Bool.and_eq_true, decide_eq_true_eq] at hb
    have sz := outW_size (plF h.words (rchL h) (rchL h).length) (l := rchL h) (fun a ha => ((rch_obs hb.1).2 a ha).2.1)
    have r := (c_right hb.1).2.2.2.2.2.1
    refine ⟨?_, ?_, by simp [coP]⟩
    · show (outW _ _ _ ++ List.replicate _ 0).length ≤ _
      rw [List.length_append, List.length_replicate]
      omega
    · show (h.roots.map _).length ≤ _
      rw [List.length_map]
      omega
  · simp [zeroH]

set_option maxRecDepth 100000 in
set_option maxHeartbeats 1600000 in
theorem specCompact_no (v : Value) (h : Hp) (w : World) (hv : HR w v h) (hro : h.roots.length ≤ 1000000000000) (hke : h.kept.length ≤ 1000000000000) (hk : okC h = false) :
    Calls Try.prog 7 #[v] w fun e w' => e = .returned (.tuple #[.agg #[.slice none 0 0, .slice none 0 0, .int .i64 0, .int .i64 0, .int .i64 0, .bool false, .int .i64 0, .slice none 0 0], .bool false]) ∧ Below w.heap.size w w' := by
  obtain ⟨v1, v2, v3, rfl, i1, i2, i3⟩ := id hv
  obtain ⟨a1, c1, rfl, -⟩ := IRs i1
  obtain ⟨a2, c2, rfl, -⟩ := IRs i2
  obtain ⟨a3, c3, rfl, -⟩ := IRs i3
  have S0 := CS.new w (.slice a1 h.words.length c1) (.slice a2 h.roots.length c2) (.int .i64 h.old) (.int .i64 h.eden) (.int .i64 h.surv) (.bool h.flip) (.int .i64 h.hash) (.slice a3 h.kept.length c3)
  have C := specHeapOk_c _ h _ (hv.later S0.bel) hro hke
  rw [hk] at C
  clear i1 i2 i3
  go_enter Try.func7, Try.ntmps7
  go_wp2_with fail
  refine C.mono ?_
  rintro e w1 ⟨rfl, hb1⟩
  have S1 := S0.later hb1
  clear C S0 hb1
  obtain ⟨fk, K⟩ := S1.res
  have fR := fun i => K.frozen i
  have r0 := K.cell (i := 0) (by omega)
  have r1 := K.cell (i := 1) (by omega)
  have r2 := K.cell (i := 2) (by omega)
  have r3 := K.cell (i := 3) (by omega)
  have r4 := K.cell (i := 4) (by omega)
  have r5 := K.cell (i := 5) (by omega)
  have r6 := K.cell (i := 6) (by omega)
  have r7 := K.cell (i := 7) (by omega)
  have ltR := K.lt
  have B9 : Below w.heap.size w ((((((((w1.setCell ⟨w.heap.size + 1, 0, none⟩ (.slice none 0 0)).setCell ⟨w.heap.size + 1, 1, none⟩ (.slice none 0 0)).setCell ⟨w.heap.size + 1, 2, none⟩ (.int .i64 0)).setCell ⟨w.heap.size + 1, 3, none⟩ (.int .i64 0)).setCell ⟨w.heap.size + 1, 4, none⟩ (.int .i64 0)).setCell ⟨w.heap.size + 1, 5, none⟩ (.bool false)).setCell ⟨w.heap.size + 1, 6, none⟩ (.int .i64 0)).setCell ⟨w.heap.size + 1, 7, none⟩ (.slice none 0 0)) := by
    repeat (refine Below.setCell ?_ (p := ⟨w.heap.size + 1, _, none⟩) (Nat.le_succ _) _)
    exact S1.bel
  clear K S1
  go_wp2
  exact bodyPost_ret (v := .tuple #[.agg #[.slice none 0 0, .slice none 0 0, .int .i64 0, .int .i64 0, .int .i64 0, .bool false, .int .i64 0, .slice none 0 0], .bool false]) (by simp [results, Try.results7, go_sem, r0, r1, r2, r3, r4, r5, r6, r7]) rfl ⟨rfl, B9⟩

theorem specCompact_c (v : Value) (h : Hp) (w : World) (hv : HR w v h) (hro : h.roots.length ≤ 1000000000000) (hke : h.kept.length ≤ 1000000000000) :
    Calls Try.prog 7 #[v] w fun e w' => (∃ u, e = .returned (.tuple #[u, .bool (coB h)]) ∧ HN w.heap.size w' u (coC h)) ∧ Below w.heap.size w w' := by
  cases hk : okC h
  · refine (specCompact_no v h w hv hro hke hk).mono fun e w' ⟨q, b⟩ => ⟨?_, b⟩
    have e0 : coB h = false := by unfold coB; rw [hk]; rfl
    have e1 : coC h = zeroH := by unfold coC; rw [e0]; rfl
    rw [e0, e1]
    exact ⟨_, q, zero_hn _ _⟩
  · refine (specCompact_any v h (obC h) (c_right hk) w hv).mono fun e w' ⟨⟨i, ei, q⟩, b⟩ => ⟨?_, b⟩
    have M := (mv_spec hk ei).1
    rcases q with ⟨u, e1, hm, hb⟩ | ⟨u, e1, hm, hb⟩
    · have e0 : coB h = false := by unfold coB; rw [hk]; simp; omega
      have e2 : coC h = zeroH := by unfold coC; rw [e0]; rfl
      rw [e0, e2]
      exact ⟨u, e1, hm.hn⟩
    · have hf : szS h.words (rchL h) ≤ 2000 := by omega
      have e0 : coB h = true := by unfold coB; rw [hk]; simp; omega
      have e2 : coC h = coP h := by unfold coC; rw [e0]; rfl
      rw [e0, e2, ← co_same hk ei hf]
      exact ⟨u, e1, hm.hn⟩

end Go.Proofs.Ytfcidgnjanidoaa

/- Compact of the program. -/
namespace Go.Proofs.Ytfcidgnjanidoaa
open Go.RowKit

theorem coP_hm {B B2 : Nat} {w9 : World} {g1 cR : Nat} {ro : Option Addr} {h : Hp} (T1 : RI w9 g1 (coP h).words 3200) (hl : (coP h).words.length = 3200) (T2 : w9.ownsRow B2 2 1 (.slice ro h.roots.length cR) h.roots.length (icells (h.roots.map (rnM (plF h.words (rchL h) (rchL h).length))))) (hB : B ≤ g1) (h12 : g1 < B2) :
    HM B w9 (.agg #[.slice (some ⟨g1, 0, none⟩) 3200 3200, .slice ro h.roots.length cR, .int .i64 (szS h.words (rchL h)), .int .i64 2000, .int .i64 2600, .bool false, .int .i64 h.hash, .slice none 0 0]) (coP h) := by
  have O1 := T1.owns (B := B) hB (by unfold maxLen; omega)
  rw [hl] at O1
  refine HM.of_owns (h := coP h) hl.symm O1 (by simp [coP]) (own_down T2 (by omega)) rfl (nil_owns _ _) (fun b q => ⟨fun e => by have := own_low T2 e; have := own_is q; omega, fun e => by cases e⟩) (fun b q e => by cases e)

set_option maxRecDepth 1000000 in
set_option maxHeartbeats 6400000 in
theorem implCompact_c (v : Value) (h : Hp) (w : World) (hv : HR w v h) (hwo : h.words.length ≤ 1000000000000) (hro : h.roots.length ≤ 1000000000000) (hke : h.kept.length ≤ 1000000000000) :
    Calls Try.prog 9 #[v] w fun e w' => (∃ u, e = .returned (.tuple #[u, .bool (coB h)]) ∧ HN w.heap.size w' u (coC h)) ∧ Below w.heap.size w w' := by
  obtain ⟨v1, v2, v3, rfl, i1, i2, i3⟩ := id hv
  have hb0 : Below w.heap.size w ((w.alloc (.cells #[v1, v2, .int .i64 h.old, .int .i64 h.eden, .int .i64 h.surv, .bool h.flip, .int .i64 h.hash, v3] 26)).alloc (.cells #[.slice none 0 0, .slice none 0 0, .int .i64 0, .int .i64 0, .int .i64 0, .bool false, .int .i64 0, .slice none 0 0] 26)) := bel_after (bel_one _ _) (bel_one _ _)
  have X0 := (Bx.new w v1 v2 v3 h 26).later (bel_one _ (.cells #[.slice none 0 0, .slice none 0 0, .int .i64 0, .int .i64 0, .int .i64 0, .bool false, .int .i64 0, .slice none 0 0] 26))
  have RR0 := row_any (w.alloc (.cells #[v1, v2, .int .i64 h.old, .int .i64 h.eden, .int .i64 h.surv, .bool h.flip, .int .i64 h.hash, v3] 26)) #[.slice none 0 0, .slice none 0 0, .int .i64 0, .int .i64 0, .int .i64 0, .bool false, .int .i64 0, .slice none 0 0] 26
  rw [World.size_alloc] at RR0
  have z0 : ((w.alloc (.cells #[v1, v2, .int .i64 h.old, .int .i64 h.eden, .int .i64 h.surv, .bool h.flip, .int .i64 h.hash, v3] 26)).alloc (.cells #[.slice none 0 0, .slice none 0 0, .int .i64 0, .int .i64 0, .int .i64 0, .bool false, .int .i64 0, .slice none 0 0] 26)).heap.size = w.heap.size + 2 := by simp
  have C0 := compactionOf_c _ h _ (hv.later hb0) hwo hro hke
  obtain ⟨x0, x1, x2, x3, x4, x5, x6, x7⟩ := id X0
  clear i1 i2 i3 X0 hv
  go_enter Try.func9, Try.ntmps9
  go_wp2_with fail
  refine C0.mono ?_
  rintro e w1 ⟨D, hb1⟩
  have hbw1 := bel_after hb0 hb1
  have RR1 := RR0.of_block (hb1.block _ RR0.lt)
  have s1 := hb1.size
  rw [z0] at s1
  clear x0 x1 x2 x3 x4 x5 x6 x7 C0 RR0
  rcases D with ⟨hk, g1, g2, g3, oa, oc, gr, cr, M, rfl, ⟨Q1, Q2, Q3⟩, io, Qr, hm, ⟨l1, l2, l3, l4, l5, l6⟩⟩ | ⟨hk, rfl⟩
  · rw [z0] at l1
    have al := bel_one w1 (.cells #[.slice (some ⟨g1, 0, none⟩) 3200 3200, .slice oa (obC h).length oc, .slice (some ⟨g2, 0, none⟩) h.roots.length h.roots.length, .int .i64 h.old, .int .i64 h.eden, .int .i64 h.surv, .bool h.flip, .int .i64 h.hash, .slice (some ⟨g3, 0, none⟩) h.kept.length h.kept.length, .slice (some ⟨gr, 0, none⟩) (rchL h).length cr, .map (some M), .int .i64 (szS h.words (rchL h))] 48)
    have hbw2 := bel_after hbw1 al
    have RR2 := RR1.of_block (al.block _ RR1.lt)
    have BX := row_any w1 #[.slice (some ⟨g1, 0, none⟩) 3200 3200, .slice oa (obC h).length oc, .slice (some ⟨g2, 0, none⟩) h.roots.length h.roots.length, .int .i64 h.old, .int .i64 h.eden, .int .i64 h.surv, .bool h.flip, .int .i64 h.hash, .slice (some ⟨g3, 0, none⟩) h.kept.length h.kept.length, .slice (some ⟨gr, 0, none⟩) (rchL h).length cr, .map (some M), .int .i64 (szS h.words (rchL h))] 48
    have s2 : (w1.alloc (.cells #[.slice (some ⟨g1, 0, none⟩) 3200 3200, .slice oa (obC h).length oc, .slice (some ⟨g2, 0, none⟩) h.roots.length h.roots.length, .int .i64 h.old, .int .i64 h.eden, .int .i64 h.surv, .bool h.flip, .int .i64 h.hash, .slice (some ⟨g3, 0, none⟩) h.kept.length h.kept.length, .slice (some ⟨gr, 0, none⟩) (rchL h).length cr, .map (some M), .int .i64 (szS h.words (rchL h))] 48)).heap.size = w1.heap.size + 1 := by simp
    have lg := Q1.lt
    by_cases hfit : szS h.words (rchL h) ≤ 2000
    · have e0 : Hid (coB h = true ∧ coC h = coP h) := (by
        have e0 : coB h = true := by unfold coB; rw [hk]; simp; omega
        exact ⟨e0, by unfold coC; rw [e0]; rfl⟩)
      have hl : (coP h).words.length = 3200 := by
        have sz := outW_size (plF h.words (rchL h) (rchL h).length) (l := rchL h) (fun a ha => ((rch_obs hk).2 a ha).2.1)
        show (outW _ _ _ ++ List.replicate _ 0).length = 3200
        rw [List.length_append, List.length_replicate]
        omega
      have al2 := bel_one (w1.alloc (.cells #[.slice (some ⟨g1, 0, none⟩) 3200 3200, .slice oa (obC h).length oc, .slice (some ⟨g2, 0, none⟩) h.roots.length h.roots.length, .int .i64 h.old, .int .i64 h.eden, .int .i64 h.surv, .bool h.flip, .int .i64 h.hash, .slice (some ⟨g3, 0, none⟩) h.kept.length h.kept.length, .slice (some ⟨gr, 0, none⟩) (rchL h).length cr, .map (some M), .int .i64 (szS h.words (rchL h))] 48)) (.cells #[.slice none 0 0, .slice none 0 0, .int .i64 0, .int .i64 0, .int .i64 0, .bool false, .int .i64 0, .slice none 0 0] 26)
      have ala := bel_after al al2
      have N : DN (w.heap.size + 2) (w1.alloc (.cells #[.slice (some ⟨g1, 0, none⟩) 3200 3200, .slice oa (obC h).length oc, .slice (some ⟨g2, 0, none⟩) h.roots.length h.roots.length, .int .i64 h.old, .int .i64 h.eden, .int .i64 h.surv, .bool h.flip, .int .i64 h.hash, .slice (some ⟨g3, 0, none⟩) h.kept.length h.kept.length, .slice (some ⟨gr, 0, none⟩) (rchL h).length cr, .map (some M), .int .i64 (szS h.words (rchL h))] 48)).heap.size w1.heap.size g1 g2 gr M := ⟨l1, s1, by omega, by omega, by omega, by omega, by omega, by omega, by omega, by omega⟩
      have K0 : DJ h (w1.alloc (.cells #[.slice (some ⟨g1, 0, none⟩) 3200 3200, .slice oa (obC h).length oc, .slice (some ⟨g2, 0, none⟩) h.roots.length h.roots.length, .int .i64 h.old, .int .i64 h.eden, .int .i64 h.surv, .bool h.flip, .int .i64 h.hash, .slice (some ⟨g3, 0, none⟩) h.kept.length h.kept.length, .slice (some ⟨gr, 0, none⟩) (rchL h).length cr, .map (some M), .int .i64 (szS h.words (rchL h))] 48)) (w.heap.size + 2) (w1.alloc (.cells #[.slice (some ⟨g1, 0, none⟩) 3200 3200, .slice oa (obC h).length oc, .slice (some ⟨g2, 0, none⟩) h.roots.length h.roots.length, .int .i64 h.old, .int .i64 h.eden, .int .i64 h.surv, .bool h.flip, .int .i64 h.hash, .slice (some ⟨g3, 0, none⟩) h.kept.length h.kept.length, .slice (some ⟨gr, 0, none⟩) (rchL h).length cr, .map (some M), .int .i64 (szS h.words (rchL h))] 48)).heap.size w1.heap.size g1 g2 gr cr M (.slice oa (obC h).length oc) (.slice (some ⟨g3, 0, none⟩) h.kept.length h.kept.length) 0 ((w1.alloc (.cells #[.slice (some ⟨g1, 0, none⟩) 3200 3200, .slice oa (obC h).length oc, .slice (some ⟨g2, 0, none⟩) h.roots.length h.roots.length, .int .i64 h.old, .int .i64 h.eden, .int .i64 h.surv, .bool h.flip, .int .i64 h.hash, .slice (some ⟨g3, 0, none⟩) h.kept.length h.kept.length, .slice (some ⟨gr, 0, none⟩) (rchL h).length cr, .map (some M), .int .i64 (szS h.words (rchL h))] 48)).alloc (.cells #[.slice none 0 0, .slice none 0 0, .int .i64 0, .int .i64 0, .int .i64 0, .bool false, .int .i64 0, .slice none 0 0] 26)) :=
        ⟨al2.mono (by omega), ⟨h.words, Q1.later ala, dw_start hk _⟩, Q2.later ala, Qr.later ala, hm.later ala, BX.of_block (al2.block _ BX.lt), ⟨_, row_any (w1.alloc (.cells #[.slice (some ⟨g1, 0, none⟩) 3200 3200, .slice oa (obC h).length oc, .slice (some ⟨g2, 0, none⟩) h.roots.length h.roots.length, .int .i64 h.old, .int .i64 h.eden, .int .i64 h.surv, .bool h.flip, .int .i64 h.hash, .slice (some ⟨g3, 0, none⟩) h.kept.length h.kept.length, .slice (some ⟨gr, 0, none⟩) (rchL h).length cr, .map (some M), .int .i64 (szS h.words (rchL h))] 48)) #[.slice none 0 0, .slice none 0 0, .int .i64 0, .int .i64 0, .int .i64 0, .bool false, .int .i64 0, .slice none 0 0] 26⟩⟩
      have DC := done_loop (w1.alloc (.cells #[.slice (some ⟨g1, 0, none⟩) 3200 3200, .slice oa (obC h).length oc, .slice (some ⟨g2, 0, none⟩) h.roots.length h.roots.length, .int .i64 h.old, .int .i64 h.eden, .int .i64 h.surv, .bool h.flip, .int .i64 h.hash, .slice (some ⟨g3, 0, none⟩) h.kept.length h.kept.length, .slice (some ⟨gr, 0, none⟩) (rchL h).length cr, .map (some M), .int .i64 (szS h.words (rchL h))] 48)) (w.heap.size + 2) w1.heap.size g1 g2 gr cr M (.slice oa (obC h).length oc) (.slice (some ⟨g3, 0, none⟩) h.kept.length h.kept.length) h hk hfit ⟨_, _, _, rfl⟩ N K0 (by omega)
      have HLH : Hid ((coP h).words.length = 3200) := hl
      rw [decide_eq_true hfit]
      clear K0 N al2 ala hl Q1 Q2 Q3 Qr io hm BX hfit
      go_wp2_with fail
      refine DC.mono ?_
      rintro e w3 ⟨⟨rv, rfl, TW, B2, lB, OW⟩, hb3⟩
      obtain ⟨ro, cR, rfl⟩ := own_shape OW
      have RR3 := RR2.of_block (hb3.block _ (by omega))
      have BL3 : Below w.heap.size w w3 := hbw2.trans (hb3.mono (by omega))
      have OKC : (#[.slice (some ⟨g1, 0, none⟩) 3200 3200, .slice ro h.roots.length cR, .int .i64 (szS h.words (rchL h)), .int .i64 2000, .int .i64 2600, .bool false, .int .i64 h.hash, .slice none 0 0] : Array Value).all (·.oneCell') = true := by simp [Value.oneCell']
      clear DC RR2 hbw2 hb3 RR1 hb1 hb0 al
      go_wp2_with ((with_reducible refine store_box _ ?_ (.tmp 2) (.tmp 14) 26 ?_ 26 (w.heap.size + 1) 8 #[.slice (some ⟨g1, 0, none⟩) 3200 3200, .slice ro h.roots.length cR, .int .i64 (szS h.words (rchL h)), .int .i64 2000, .int .i64 2600, .bool false, .int .i64 h.hash, .slice none 0 0] _ ?_ ?_ RR3 ?_ ?_ OKC ?_); rfl; rfl; rfl; rfl; rfl; kernel_rfl; intro w9 F9 G9)
      have r0 := F9.cell (i := 0) (by omega); have r1 := F9.cell (i := 1) (by omega); have r2 := F9.cell (i := 2) (by omega); have r3 := F9.cell (i := 3) (by omega); have r4 := F9.cell (i := 4) (by omega); have r5 := F9.cell (i := 5) (by omega); have r6 := F9.cell (i := 6) (by omega); have r7 := F9.cell (i := 7) (by omega)
      have TW9 := TW.grown G9 (fun e => by have := Option.some.inj e; omega)
      have OW9 := (Grew.grown G9).own OW (fun b e z => by have := (OW.lt b e).1; have := Option.some.inj z; omega)
      have BF := Below.grown BL3 G9 BL3.size (fun q e => by cases e; omega)
      have HF := (coP_hm (B := w.heap.size) TW9 HLH.out OW9 (by omega) lB).hn
      exact bodyPost_ret (v := .tuple #[.agg #[.slice (some ⟨g1, 0, none⟩) 3200 3200, .slice ro h.roots.length cR, .int .i64 (szS h.words (rchL h)), .int .i64 2000, .int .i64 2600, .bool false, .int .i64 h.hash, .slice none 0 0], .bool true]) (by simp [results, Try.results9, go_sem, r0, r1, r2, r3, r4, r5, r6, r7]) rfl ⟨⟨_, by rw [e0.out.1], by rw [e0.out.2]; exact HF⟩, BF⟩
    · have e0 : Hid (coB h = false ∧ coC h = zeroH) := (by
        have e0 : coB h = false := by unfold coB; rw [hk]; simp; omega
        exact ⟨e0, by unfold coC; rw [e0]; rfl⟩)
      rw [decide_eq_false hfit]
      have OKC : (#[.slice none 0 0, .slice none 0 0, .int .i64 0, .int .i64 0, .int .i64 0, .bool false, .int .i64 0, .slice none 0 0] : Array Value).all (·.oneCell') = true := by simp [Value.oneCell']
      clear hfit Q1 Q2 Q3 Qr io hm BX
      go_wp2_with ((with_reducible refine store_box _ ?_ (.tmp 2) (.tmp 13) 26 ?_ 26 (w.heap.size + 1) 8 #[.slice none 0 0, .slice none 0 0, .int .i64 0, .int .i64 0, .int .i64 0, .bool false, .int .i64 0, .slice none 0 0] _ ?_ ?_ RR2 ?_ ?_ OKC ?_); rfl; rfl; rfl; rfl; rfl; kernel_rfl; intro w9 F9 G9)
      have r0 := F9.cell (i := 0) (by omega); have r1 := F9.cell (i := 1) (by omega); have r2 := F9.cell (i := 2) (by omega); have r3 := F9.cell (i := 3) (by omega); have r4 := F9.cell (i := 4) (by omega); have r5 := F9.cell (i := 5) (by omega); have r6 := F9.cell (i := 6) (by omega); have r7 := F9.cell (i := 7) (by omega)
      have BF := Below.grown hbw2 G9 hbw2.size (fun q e => by cases e; omega)
      exact bodyPost_ret (v := .tuple #[.agg #[.slice none 0 0, .slice none 0 0, .int .i64 0, .int .i64 0, .int .i64 0, .bool false, .int .i64 0, .slice none 0 0], .bool false]) (by simp [results, Try.results9, go_sem, r0, r1, r2, r3, r4, r5, r6, r7]) rfl ⟨⟨_, by rw [e0.out.1], by rw [e0.out.2]; exact zero_hn _ _⟩, BF⟩
  · have e0 : Hid (coB h = false ∧ coC h = zeroH) := (by
      have e0 : coB h = false := by unfold coB; rw [hk]; rfl
      exact ⟨e0, by unfold coC; rw [e0]; rfl⟩)
    have al := bel_one w1 (.cells #[.slice none 0 0, .slice none 0 0, .slice none 0 0, .int .i64 0, .int .i64 0, .int .i64 0, .bool false, .int .i64 0, .slice none 0 0, .slice none 0 0, .map none, .int .i64 0] 48)
    have hbw2 := bel_after hbw1 al
    have RR2 := RR1.of_block (al.block _ RR1.lt)
    have OKC : (#[.slice none 0 0, .slice none 0 0, .int .i64 0, .int .i64 0, .int .i64 0, .bool false, .int .i64 0, .slice none 0 0] : Array Value).all (·.oneCell') = true := by simp [Value.oneCell']
    go_wp2_with ((with_reducible refine store_box _ ?_ (.tmp 2) (.tmp 13) 26 ?_ 26 (w.heap.size + 1) 8 #[.slice none 0 0, .slice none 0 0, .int .i64 0, .int .i64 0, .int .i64 0, .bool false, .int .i64 0, .slice none 0 0] _ ?_ ?_ RR2 ?_ ?_ OKC ?_); rfl; rfl; rfl; rfl; rfl; kernel_rfl; intro w9 F9 G9)
    have r0 := F9.cell (i := 0) (by omega); have r1 := F9.cell (i := 1) (by omega); have r2 := F9.cell (i := 2) (by omega); have r3 := F9.cell (i := 3) (by omega); have r4 := F9.cell (i := 4) (by omega); have r5 := F9.cell (i := 5) (by omega); have r6 := F9.cell (i := 6) (by omega); have r7 := F9.cell (i := 7) (by omega)
    have BF := Below.grown hbw2 G9 hbw2.size (fun q e => by cases e; omega)
    exact bodyPost_ret (v := .tuple #[.agg #[.slice none 0 0, .slice none 0 0, .int .i64 0, .int .i64 0, .int .i64 0, .bool false, .int .i64 0, .slice none 0 0], .bool false]) (by simp [results, Try.results9, go_sem, r0, r1, r2, r3, r4, r5, r6, r7]) rfl ⟨⟨_, by rw [e0.out.1], by rw [e0.out.2]; exact zero_hn _ _⟩, BF⟩

end Go.Proofs.Ytfcidgnjanidoaa
