
import Derived.Test.YthdffigckohpoaaGreatZCDone
import Derived.Test.YthdffigckohpoaaGreatZV15
import Derived.Test.YthdffigckohpoaaGreatZV13
import Derived.Test.YthdffigckohpoaaGreatZV7
import Derived.Test.YthdffigckohpoaaGreatZV1
/- Compact of the program. -/
namespace Go.Proofs.YthdffigckohpoaaGreat
open Go.RowKit

theorem coP_hm {B B2 : Nat} {w9 : World} {g1 cR : Nat} {ro : Option Addr} {h : Hp} (T1 : RI w9 g1 (coP h).words 3200) (hl : (coP h).words.length = 3200) (T2 : w9.ownsRow B2 2 1 (.slice ro h.roots.length cR) h.roots.length (icells (h.roots.map (rnM (plF h.words (rchL h) (rchL h).length))))) (hB : B ≤ g1) (h12 : g1 < B2) :
    HM B w9 (.agg #[.slice (some ⟨g1, 0, none⟩) 3200 3200, .slice ro h.roots.length cR, .int .i64 (szS h.words (rchL h)), .int .i64 2000, .int .i64 2600, .bool false, .int .i64 h.hash, .slice none 0 0]) (coP h) := by
  have O1 := T1.owns (B := B) hB (by unfold maxLen; omega)
  rw [hl] at O1
  refine HM.of_owns (h := coP h) hl.symm O1 (by simp [coP]) (own_down T2 (by omega)) rfl (nil_owns _ _) (fun b q => ⟨fun e => by have := own_low T2 e; have := own_is q; omega, fun e => by cases e⟩) (fun b q e => by cases e)

set_option maxRecDepth 1000000 in
set_option maxHeartbeats 6400000 in
theorem implCompact_c (v : Value) (h : Hp) (w : World) (hv : HR w v h) (hwo : h.words.length ≤ 1000000000000) (hro : h.roots.length ≤ 1000000000000) (hke : h.kept.length ≤ 1000000000000) :
    Calls Tryz.prog 8 #[v] w fun e w' => (∃ u, e = .returned (.tuple #[u, .bool (coB h)]) ∧ HN w.heap.size w' u (coC h)) ∧ Below w.heap.size w w' := by
  obtain ⟨v1, v2, v3, rfl, i1, i2, i3⟩ := id hv
  have hb0 : Below w.heap.size w ((w.alloc (.cells #[v1, v2, .int .i64 h.old, .int .i64 h.eden, .int .i64 h.surv, .bool h.flip, .int .i64 h.hash, v3] 26)).alloc (.cells #[.slice none 0 0, .slice none 0 0, .int .i64 0, .int .i64 0, .int .i64 0, .bool false, .int .i64 0, .slice none 0 0] 26)) := bel_after (bel_one _ _) (bel_one _ _)
  have X0 := (Bx.new w v1 v2 v3 h 26).later (bel_one _ (.cells #[.slice none 0 0, .slice none 0 0, .int .i64 0, .int .i64 0, .int .i64 0, .bool false, .int .i64 0, .slice none 0 0] 26))
  have RR0 := row_any (w.alloc (.cells #[v1, v2, .int .i64 h.old, .int .i64 h.eden, .int .i64 h.surv, .bool h.flip, .int .i64 h.hash, v3] 26)) #[.slice none 0 0, .slice none 0 0, .int .i64 0, .int .i64 0, .int .i64 0, .bool false, .int .i64 0, .slice none 0 0] 26
  rw [World.size_alloc] at RR0
  have z0 : ((w.alloc (.cells #[v1, v2, .int .i64 h.old, .int .i64 h.eden, .int .i64 h.surv, .bool h.flip, .int .i64 h.hash, v3] 26)).alloc (.cells #[.slice none 0 0, .slice none 0 0, .int .i64 0, .int .i64 0, .int .i64 0, .bool false, .int .i64 0, .slice none 0 0] 26)).heap.size = w.heap.size + 2 := by simp
  have C0 := compactionOf_c _ h _ (hv.later hb0) hwo hro hke
  obtain ⟨x0, x1, x2, x3, x4, x5, x6, x7⟩ := id X0
  clear i1 i2 i3 X0 hv
  go_enter Tryz.func8, Tryz.ntmps8
  go_wp2_with fail
  refine C0.mono ?_
  rintro e w1 ⟨D, hb1⟩
  have hbw1 := bel_after hb0 hb1
  have RR1 := RR0.of_block (hb1.block _ RR0.lt)
  have s1 := hb1.size
  rw [z0] at s1
  clear x0 x1 x2 x3 x4 x5 x6 x7 C0 RR0
  rcases D with ⟨hk, g1, g2, g3, oa, oc, gr, cr, M, rfl, ⟨Q1, Q2, Q3⟩, io, Qr, hm, ⟨l1, l2, l3, l4, l5, l6⟩⟩ | ⟨hk, rfl⟩
  · rw [z0] at l1
    have al := bel_one w1 (.cells #[.slice (some ⟨g1, 0, none⟩) 3200 3200, .slice oa (obC h).length oc, .slice (some ⟨g2, 0, none⟩) h.roots.length h.roots.length, .int .i64 h.old, .int .i64 h.eden, .int .i64 h.surv, .bool h.flip, .int .i64 h.hash, .slice (some ⟨g3, 0, none⟩) h.kept.length h.kept.length, .slice (some ⟨gr, 0, none⟩) (rchL h).length cr, .map (some M), .int .i64 (szS h.words (rchL h))] 52)
    have hbw2 := bel_after hbw1 al
    have RR2 := RR1.of_block (al.block _ RR1.lt)
    have BX := row_any w1 #[.slice (some ⟨g1, 0, none⟩) 3200 3200, .slice oa (obC h).length oc, .slice (some ⟨g2, 0, none⟩) h.roots.length h.roots.length, .int .i64 h.old, .int .i64 h.eden, .int .i64 h.surv, .bool h.flip, .int .i64 h.hash, .slice (some ⟨g3, 0, none⟩) h.kept.length h.kept.length, .slice (some ⟨gr, 0, none⟩) (rchL h).length cr, .map (some M), .int .i64 (szS h.words (rchL h))] 52
    have s2 : (w1.alloc (.cells #[.slice (some ⟨g1, 0, none⟩) 3200 3200, .slice oa (obC h).length oc, .slice (some ⟨g2, 0, none⟩) h.roots.length h.roots.length, .int .i64 h.old, .int .i64 h.eden, .int .i64 h.surv, .bool h.flip, .int .i64 h.hash, .slice (some ⟨g3, 0, none⟩) h.kept.length h.kept.length, .slice (some ⟨gr, 0, none⟩) (rchL h).length cr, .map (some M), .int .i64 (szS h.words (rchL h))] 52)).heap.size = w1.heap.size + 1 := by simp
    have lg := Q1.lt
    by_cases hfit : szS h.words (rchL h) ≤ 2000
    · have e0 : Hid (coB h = true ∧ coC h = coP h) := (by
        have e0 : coB h = true := by unfold coB; rw [hk]; simp; omega
        exact ⟨e0, by unfold coC; rw [e0]; rfl⟩)
      have hl : (coP h).words.length = 3200 := by
        have sz := outW_size (plF h.words (rchL h) (rchL h).length) (l := rchL h) (fun a ha => ((rch_obs hk).2 a ha).2.1)
        show (outW _ _ _ ++ List.replicate _ 0).length = 3200
        rw [List.length_append, List.length_replicate]
        omega
      have al2 := bel_one (w1.alloc (.cells #[.slice (some ⟨g1, 0, none⟩) 3200 3200, .slice oa (obC h).length oc, .slice (some ⟨g2, 0, none⟩) h.roots.length h.roots.length, .int .i64 h.old, .int .i64 h.eden, .int .i64 h.surv, .bool h.flip, .int .i64 h.hash, .slice (some ⟨g3, 0, none⟩) h.kept.length h.kept.length, .slice (some ⟨gr, 0, none⟩) (rchL h).length cr, .map (some M), .int .i64 (szS h.words (rchL h))] 52)) (.cells #[.slice none 0 0, .slice none 0 0, .int .i64 0, .int .i64 0, .int .i64 0, .bool false, .int .i64 0, .slice none 0 0] 26)
      have ala := bel_after al al2
      have N : DN (w.heap.size + 2) (w1.alloc (.cells #[.slice (some ⟨g1, 0, none⟩) 3200 3200, .slice oa (obC h).length oc, .slice (some ⟨g2, 0, none⟩) h.roots.length h.roots.length, .int .i64 h.old, .int .i64 h.eden, .int .i64 h.surv, .bool h.flip, .int .i64 h.hash, .slice (some ⟨g3, 0, none⟩) h.kept.length h.kept.length, .slice (some ⟨gr, 0, none⟩) (rchL h).length cr, .map (some M), .int .i64 (szS h.words (rchL h))] 52)).heap.size w1.heap.size g1 g2 gr M := ⟨l1, s1, by omega, by omega, by omega, by omega, by omega, by omega, by omega, by omega⟩
      have K0 : DJ h (w1.alloc (.cells #[.slice (some ⟨g1, 0, none⟩) 3200 3200, .slice oa (obC h).length oc, .slice (some ⟨g2, 0, none⟩) h.roots.length h.roots.length, .int .i64 h.old, .int .i64 h.eden, .int .i64 h.surv, .bool h.flip, .int .i64 h.hash, .slice (some ⟨g3, 0, none⟩) h.kept.length h.kept.length, .slice (some ⟨gr, 0, none⟩) (rchL h).length cr, .map (some M), .int .i64 (szS h.words (rchL h))] 52)) (w.heap.size + 2) (w1.alloc (.cells #[.slice (some ⟨g1, 0, none⟩) 3200 3200, .slice oa (obC h).length oc, .slice (some ⟨g2, 0, none⟩) h.roots.length h.roots.length, .int .i64 h.old, .int .i64 h.eden, .int .i64 h.surv, .bool h.flip, .int .i64 h.hash, .slice (some ⟨g3, 0, none⟩) h.kept.length h.kept.length, .slice (some ⟨gr, 0, none⟩) (rchL h).length cr, .map (some M), .int .i64 (szS h.words (rchL h))] 52)).heap.size w1.heap.size g1 g2 gr cr M (.slice oa (obC h).length oc) (.slice (some ⟨g3, 0, none⟩) h.kept.length h.kept.length) 0 ((w1.alloc (.cells #[.slice (some ⟨g1, 0, none⟩) 3200 3200, .slice oa (obC h).length oc, .slice (some ⟨g2, 0, none⟩) h.roots.length h.roots.length, .int .i64 h.old, .int .i64 h.eden, .int .i64 h.surv, .bool h.flip, .int .i64 h.hash, .slice (some ⟨g3, 0, none⟩) h.kept.length h.kept.length, .slice (some ⟨gr, 0, none⟩) (rchL h).length cr, .map (some M), .int .i64 (szS h.words (rchL h))] 52)).alloc (.cells #[.slice none 0 0, .slice none 0 0, .int .i64 0, .int .i64 0, .int .i64 0, .bool false, .int .i64 0, .slice none 0 0] 26)) :=
        ⟨al2.mono (by omega), ⟨h.words, Q1.later ala, dw_start hk _⟩, Q2.later ala, Qr.later ala, hm.later ala, BX.of_block (al2.block _ BX.lt), ⟨_, row_any (w1.alloc (.cells #[.slice (some ⟨g1, 0, none⟩) 3200 3200, .slice oa (obC h).length oc, .slice (some ⟨g2, 0, none⟩) h.roots.length h.roots.length, .int .i64 h.old, .int .i64 h.eden, .int .i64 h.surv, .bool h.flip, .int .i64 h.hash, .slice (some ⟨g3, 0, none⟩) h.kept.length h.kept.length, .slice (some ⟨gr, 0, none⟩) (rchL h).length cr, .map (some M), .int .i64 (szS h.words (rchL h))] 52)) #[.slice none 0 0, .slice none 0 0, .int .i64 0, .int .i64 0, .int .i64 0, .bool false, .int .i64 0, .slice none 0 0] 26⟩⟩
      have DC := done_loop (w1.alloc (.cells #[.slice (some ⟨g1, 0, none⟩) 3200 3200, .slice oa (obC h).length oc, .slice (some ⟨g2, 0, none⟩) h.roots.length h.roots.length, .int .i64 h.old, .int .i64 h.eden, .int .i64 h.surv, .bool h.flip, .int .i64 h.hash, .slice (some ⟨g3, 0, none⟩) h.kept.length h.kept.length, .slice (some ⟨gr, 0, none⟩) (rchL h).length cr, .map (some M), .int .i64 (szS h.words (rchL h))] 52)) (w.heap.size + 2) w1.heap.size g1 g2 gr cr M (.slice oa (obC h).length oc) (.slice (some ⟨g3, 0, none⟩) h.kept.length h.kept.length) h hk hfit ⟨_, _, _, rfl⟩ N K0 (by omega)
      have HLH : Hid ((coP h).words.length = 3200) := hl
      rw [decide_eq_true hfit]
      clear K0 N al2 ala hl Q1 Q2 Q3 Qr io hm BX hfit
      go_wp2_with fail
      refine DC.mono ?_
      rintro e w3 ⟨⟨rv, rfl, TW, B2, lB, OW⟩, hb3⟩
      obtain ⟨ro, cR, rfl⟩ := own_shape OW
      have RR3 := RR2.of_block (hb3.block _ (by omega))
      have BL3 : Below w.heap.size w w3 := hbw2.trans (hb3.mono (by omega))
      have OKC : (#[.slice (some ⟨g1, 0, none⟩) 3200 3200, .slice ro h.roots.length cR, .int .i64 (szS h.words (rchL h)), .int .i64 2000, .int .i64 2600, .bool false, .int .i64 h.hash, .slice none 0 0] : Array Value).all (·.oneCell') = true := by simp [Value.oneCell']
      clear DC RR2 hbw2 hb3 RR1 hb1 hb0 al
      go_wp2_with ((with_reducible refine store_box _ ?_ (.tmp 2) (.tmp 14) 26 ?_ 26 (w.heap.size + 1) 8 #[.slice (some ⟨g1, 0, none⟩) 3200 3200, .slice ro h.roots.length cR, .int .i64 (szS h.words (rchL h)), .int .i64 2000, .int .i64 2600, .bool false, .int .i64 h.hash, .slice none 0 0] _ ?_ ?_ RR3 ?_ ?_ OKC ?_); rfl; rfl; rfl; rfl; rfl; kernel_rfl; intro w9 F9 G9)
      have r0 := F9.cell (i := 0) (by omega); have r1 := F9.cell (i := 1) (by omega); have r2 := F9.cell (i := 2) (by omega); have r3 := F9.cell (i := 3) (by omega); have r4 := F9.cell (i := 4) (by omega); have r5 := F9.cell (i := 5) (by omega); have r6 := F9.cell (i := 6) (by omega); have r7 := F9.cell (i := 7) (by omega)
      have TW9 := TW.grown G9 (fun e => by have := Option.some.inj e; omega)
      have OW9 := (Grew.grown G9).own OW (fun b e z => by have := (OW.lt b e).1; have := Option.some.inj z; omega)
      have BF := Below.grown BL3 G9 BL3.size (fun q e => by cases e; omega)
      have HF := (coP_hm (B := w.heap.size) TW9 HLH.out OW9 (by omega) lB).hn
      exact bodyPost_ret (v := .tuple #[.agg #[.slice (some ⟨g1, 0, none⟩) 3200 3200, .slice ro h.roots.length cR, .int .i64 (szS h.words (rchL h)), .int .i64 2000, .int .i64 2600, .bool false, .int .i64 h.hash, .slice none 0 0], .bool true]) (by simp [results, Tryz.results8, go_sem, r0, r1, r2, r3, r4, r5, r6, r7]) rfl ⟨⟨_, by rw [e0.out.1], by rw [e0.out.2]; exact HF⟩, BF⟩
    · have e0 : Hid (coB h = false ∧ coC h = zeroH) := (by
        have e0 : coB h = false := by unfold coB; rw [hk]; simp; omega
        exact ⟨e0, by unfold coC; rw [e0]; rfl⟩)
      rw [decide_eq_false hfit]
      have OKC : (#[.slice none 0 0, .slice none 0 0, .int .i64 0, .int .i64 0, .int .i64 0, .bool false, .int .i64 0, .slice none 0 0] : Array Value).all (·.oneCell') = true := by simp [Value.oneCell']
      clear hfit Q1 Q2 Q3 Qr io hm BX
      go_wp2_with ((with_reducible refine store_box _ ?_ (.tmp 2) (.tmp 13) 26 ?_ 26 (w.heap.size + 1) 8 #[.slice none 0 0, .slice none 0 0, .int .i64 0, .int .i64 0, .int .i64 0, .bool false, .int .i64 0, .slice none 0 0] _ ?_ ?_ RR2 ?_ ?_ OKC ?_); rfl; rfl; rfl; rfl; rfl; kernel_rfl; intro w9 F9 G9)
      have r0 := F9.cell (i := 0) (by omega); have r1 := F9.cell (i := 1) (by omega); have r2 := F9.cell (i := 2) (by omega); have r3 := F9.cell (i := 3) (by omega); have r4 := F9.cell (i := 4) (by omega); have r5 := F9.cell (i := 5) (by omega); have r6 := F9.cell (i := 6) (by omega); have r7 := F9.cell (i := 7) (by omega)
      have BF := Below.grown hbw2 G9 hbw2.size (fun q e => by cases e; omega)
      exact bodyPost_ret (v := .tuple #[.agg #[.slice none 0 0, .slice none 0 0, .int .i64 0, .int .i64 0, .int .i64 0, .bool false, .int .i64 0, .slice none 0 0], .bool false]) (by simp [results, Tryz.results8, go_sem, r0, r1, r2, r3, r4, r5, r6, r7]) rfl ⟨⟨_, by rw [e0.out.1], by rw [e0.out.2]; exact zero_hn _ _⟩, BF⟩
  · have e0 : Hid (coB h = false ∧ coC h = zeroH) := (by
      have e0 : coB h = false := by unfold coB; rw [hk]; rfl
      exact ⟨e0, by unfold coC; rw [e0]; rfl⟩)
    have al := bel_one w1 (.cells #[.slice none 0 0, .slice none 0 0, .slice none 0 0, .int .i64 0, .int .i64 0, .int .i64 0, .bool false, .int .i64 0, .slice none 0 0, .slice none 0 0, .map none, .int .i64 0] 52)
    have hbw2 := bel_after hbw1 al
    have RR2 := RR1.of_block (al.block _ RR1.lt)
    have OKC : (#[.slice none 0 0, .slice none 0 0, .int .i64 0, .int .i64 0, .int .i64 0, .bool false, .int .i64 0, .slice none 0 0] : Array Value).all (·.oneCell') = true := by simp [Value.oneCell']
    go_wp2_with ((with_reducible refine store_box _ ?_ (.tmp 2) (.tmp 13) 26 ?_ 26 (w.heap.size + 1) 8 #[.slice none 0 0, .slice none 0 0, .int .i64 0, .int .i64 0, .int .i64 0, .bool false, .int .i64 0, .slice none 0 0] _ ?_ ?_ RR2 ?_ ?_ OKC ?_); rfl; rfl; rfl; rfl; rfl; kernel_rfl; intro w9 F9 G9)
    have r0 := F9.cell (i := 0) (by omega); have r1 := F9.cell (i := 1) (by omega); have r2 := F9.cell (i := 2) (by omega); have r3 := F9.cell (i := 3) (by omega); have r4 := F9.cell (i := 4) (by omega); have r5 := F9.cell (i := 5) (by omega); have r6 := F9.cell (i := 6) (by omega); have r7 := F9.cell (i := 7) (by omega)
    have BF := Below.grown hbw2 G9 hbw2.size (fun q e => by cases e; omega)
    exact bodyPost_ret (v := .tuple #[.agg #[.slice none 0 0, .slice none 0 0, .int .i64 0, .int .i64 0, .int .i64 0, .bool false, .int .i64 0, .slice none 0 0], .bool false]) (by simp [results, Tryz.results8, go_sem, r0, r1, r2, r3, r4, r5, r6, r7]) rfl ⟨⟨_, by rw [e0.out.1], by rw [e0.out.2]; exact zero_hn _ _⟩, BF⟩

end Go.Proofs.YthdffigckohpoaaGreat

/- l6Told of the model: a word with its object's number. -/
namespace Go.Proofs.YthdffigckohpoaaGreat
open Go.RowKit

/-- The numbers of the objects that were found, one more each, nought for none. -/
def nmF (o : List Nat) (i : Nat) : Value := .int .i64 (if i ∈ o then ((o.idxOf i : Nat) : Int) + 1 else 0)
end Go.Proofs.YthdffigckohpoaaGreat

/- Rows of nodes, and graphs that were made since. -/
namespace Go.Proofs.YthdffigckohpoaaGreat
open Go.RowKit

/-- The cells of a row of nodes. -/
def Trip (xs : List Value) (ns : List Nd) (fv : Nat → Value) : Prop :=
  xs.length = ns.length * 3 ∧ ∀ i, i < ns.length → xs[i * 3]? = some (.int .i64 (ns.getD i nd0).cls) ∧ xs[i * 3 + 1]? = some (.int .i64 (ns.getD i nd0).hash) ∧ xs[i * 3 + 2]? = some (fv i)
theorem Trip.nil (fv : Nat → Value) : Trip [] [] fv := ⟨rfl, fun i hi => by simp at hi⟩
theorem Trip.snoc {xs : List Value} {ns : List Nd} {fv : Nat → Value} (h : Trip xs ns fv) (c z : Int) (fl : List Int) (f : Value) :
    Trip (xs ++ [.int .i64 c, .int .i64 z, f]) (ns ++ [⟨c, z, fl⟩]) (fun i => if i = ns.length then f else fv i) := by
  obtain ⟨hl, h⟩ := h
  refine ⟨by simp [hl]; omega, fun i hi => ?_⟩
  have hi' : i < ns.length + 1 := by simpa using hi
  by_cases e : i = ns.length
  · subst e
    rw [← hl, List.getElem?_append_right (by omega), List.getElem?_append_right (by omega), List.getElem?_append_right (by omega)]
    simp
  · have hlt : i < ns.length := by omega
    obtain ⟨h0, h1, h2⟩ := h i hlt
    rw [List.getElem?_append_left (by omega), List.getElem?_append_left (by omega), List.getElem?_append_left (by omega)]
    have ef : (fun i => if i = ns.length then f else fv i) i = fv i := if_neg e
    rw [ef]
    have eg : (ns ++ [(⟨c, z, fl⟩ : Nd)]).getD i nd0 = ns.getD i nd0 := by simp [List.getD_eq_getElem?_getD, List.getElem?_append_left hlt]
    rw [eg]
    exact ⟨h0, h1, h2⟩
theorem own_cell3 {w : World} {B e : Nat} {v : Value} {n : Nat} {xs : List Value} (h : w.ownsRow B e 3 v n xs) : ∃ ao cap, v = .slice ao n cap ∧ n ≤ cap ∧ ∀ j, j < n * 3 → ∃ b, ao = some ⟨b, 0, none⟩ ∧ w.cell? ⟨b, j, none⟩ = xs[j]? := by
  obtain ⟨hl, h⟩ := h
  rcases h with ⟨rfl, rfl⟩ | ⟨g, cap, cur, rfl, hB, hh, h1, h2, h3, h4⟩
  · exact ⟨none, 0, rfl, Nat.le_refl _, fun i hi => by omega⟩
  · refine ⟨_, cap, rfl, h1, fun i hi => ⟨g, rfl, ?_⟩⟩
    rw [← h4, List.getElem?_take_of_lt (by omega)]
    simp [World.cell?, hh]
/-- Nodes of which the row is owned and the fields read, in blocks of K. -/
def NK (B : Nat) (w : World) (nv : Value) (ns : List Nd) (K : Nat → Prop) : Prop :=
  ∃ xs fv, w.ownsRow B 72 3 nv ns.length xs ∧ Trip xs ns fv ∧ ∀ i, i < ns.length → IR w (fv i) (ns.getD i nd0).fl ∧ ∀ b, inB (fv i) b → K b
theorem NK.nr {B : Nat} {w : World} {nv : Value} {ns : List Nd} {K : Nat → Prop} (h : NK B w nv ns K) : NR w nv ns := by
  obtain ⟨xs, fv, ho, ht, hf⟩ := h
  obtain ⟨ao, cap, rfl, hle, hc⟩ := own_cell3 ho
  refine ⟨ao, cap, rfl, hle, fun i hi => ?_⟩
  obtain ⟨b, rfl, c0⟩ := hc (i * 3) (by omega)
  obtain ⟨_, e1, c1⟩ := hc (i * 3 + 1) (by omega)
  obtain ⟨_, e2, c2⟩ := hc (i * 3 + 2) (by omega)
  cases e1
  cases e2
  obtain ⟨t0, t1, t2⟩ := ht.2 i hi
  obtain ⟨fa, fc, hfv, _⟩ := id (hf i hi).1
  refine ⟨b, 0, fa, (ns.getD i nd0).fl.length, fc, rfl, ?_, ?_, ?_, ?_⟩
  · rw [Nat.zero_add, c0, t0]
  · rw [Nat.zero_add, c1, t1]
  · rw [Nat.zero_add, c2, t2, hfv]
  · rw [← hfv]
    exact (hf i hi).1
theorem Grew.nk {w w' : World} {S K : Nat → Prop} {B : Nat} {nv : Value} {ns : List Nd} (h : Grew w w' S) (k : NK B w nv ns K) (h1 : ∀ b, nv.ownBlock = some b → ¬ S b) (h2 : ∀ b, K b → ¬ S b) : NK B w' nv ns K := by
  obtain ⟨xs, fv, ho, ht, hf⟩ := k
  exact ⟨xs, fv, h.own ho h1, ht, fun i hi => ⟨h.ir (hf i hi).1 (fun b q => h2 b ((hf i hi).2 b q)), (hf i hi).2⟩⟩
theorem NK.mono {w : World} {K K' : Nat → Prop} {B : Nat} {nv : Value} {ns : List Nd} (k : NK B w nv ns K) (h : ∀ b, K b → K' b) : NK B w nv ns K' := by
  obtain ⟨xs, fv, ho, ht, hf⟩ := k
  exact ⟨xs, fv, ho, ht, fun i hi => ⟨(hf i hi).1, fun b q => h b ((hf i hi).2 b q)⟩⟩
theorem NK.base {w : World} {K : Nat → Prop} {B B' : Nat} {nv : Value} {ns : List Nd} (k : NK B w nv ns K) (h : B' ≤ B) : NK B' w nv ns K := by
  obtain ⟨xs, fv, ho, ht, hf⟩ := k
  exact ⟨xs, fv, gown_mono ho h, ht, hf⟩
theorem NK.own {w : World} {K : Nat → Prop} {B : Nat} {nv : Value} {ns : List Nd} (k : NK B w nv ns K) : ∀ b, nv.ownBlock = some b → B ≤ b ∧ b < w.heap.size := by
  obtain ⟨xs, fv, ho, ht, hf⟩ := k
  exact ho.lt
/-- A graph that was made since B. -/
def GRn (B : Nat) (w : World) (v : Value) (g : Gr) : Prop := ∃ vr vn K, v = .agg #[vr, vn, .int .i64 g.hash] ∧ (IR w vr g.roots ∧ ∀ b, inB vr b → K b) ∧ NK B w vn g.nodes K ∧ ∀ b, K b → B ≤ b
theorem GRn.gr {B : Nat} {w : World} {v : Value} {g : Gr} (h : GRn B w v g) : GR w v g := by
  obtain ⟨vr, vn, K, e, hr, hn, _⟩ := h
  exact ⟨vr, vn, e, hr.1, hn.nr⟩
theorem Grew.grn {B : Nat} {w w' : World} {v : Value} {g : Gr} {S : Nat → Prop} (q : Grew w w' S) (h : GRn B w v g) (hS : ∀ b, S b → b < B) : GRn B w' v g := by
  obtain ⟨vr, vn, K, e, hr, hn, hK⟩ := h
  exact ⟨vr, vn, K, e, ⟨q.ir hr.1 (fun b k s => by have := hK b (hr.2 b k); have := hS b s; omega), hr.2⟩, q.nk hn (fun b k s => by have := (hn.own b k).1; have := hS b s; omega) (fun b k s => by have := hK b k; have := hS b s; omega), hK⟩
theorem GRn.later {B : Nat} {w w' : World} {v : Value} {g : Gr} (h : GRn B w v g) (hb : Below w.heap.size w w') : GRn B w' v g := (Grew.new hb (fun _ => False)).grn h (fun _ q => q.elim)
theorem GRn.base {B B' : Nat} {w : World} {v : Value} {g : Gr} (h : GRn B w v g) (hB : B' ≤ B) : GRn B' w v g := by
  obtain ⟨vr, vn, K, e, hr, hn, hK⟩ := h
  exact ⟨vr, vn, K, e, hr, hn.base hB, fun b k => by have := hK b k; omega⟩

end Go.Proofs.YthdffigckohpoaaGreat

/- Graphs as they are read, and the parts of one that is being made. -/
namespace Go.Proofs.YthdffigckohpoaaGreat
open Go.RowKit

theorem gr_set0 {w : World} {b t : Nat} {rv nv : Value} {hh : Int} (h : w.rowIs b t 3 (grF rv nv hh)) (u : Value) : (w.setCell ⟨b, 0, none⟩ u).rowIs b t 3 (grF u nv hh) :=
  (h.set 0 u).congr fun i _ => by unfold grF; by_cases e : i = 0 <;> simp [e]
theorem gr_set1 {w : World} {b t : Nat} {rv nv : Value} {hh : Int} (h : w.rowIs b t 3 (grF rv nv hh)) (u : Value) : (w.setCell ⟨b, 1, none⟩ u).rowIs b t 3 (grF rv u hh) :=
  (h.set 1 u).congr fun i _ => by
    unfold grF
    by_cases e : i = 1
    · simp [e]
    · by_cases e0 : i = 0
      · simp [e0]
      · simp [e, e0]
def ndF (c z : Int) (f : Value) (i : Nat) : Value := if i = 0 then .int .i64 c else if i = 1 then .int .i64 z else f
theorem nd_set2 {w : World} {b t : Nat} {c z : Int} {f : Value} (h : w.rowIs b t 3 (ndF c z f)) (u : Value) : (w.setCell ⟨b, 2, none⟩ u).rowIs b t 3 (ndF c z u) :=
  (h.set 2 u).congr fun i hi => by
    unfold ndF
    by_cases e : i = 2
    · simp [e]
    · rw [if_neg e]
      by_cases e0 : i = 0
      · simp [e0]
      · by_cases e1 : i = 1
        · simp [e1]
        · omega

/-- A graph in the making: its roots come. -/
structure Sh1 (N : Nat) (W0 wr : World) (hh : Int) (o : List Nat) (rl : List Int) (ov rv : Value) : Prop where
  bel : Below (N + 2) W0 wr
  sz : N + 5 ≤ wr.heap.size
  num : wr.rowIs (N + 2) 2 3200 (nmF o)
  ord : wr.ownsRow (N + 3) 2 1 ov o.length (icells (ints o))
  ordg : ov.ownBlock ≠ some (N + 4)
  g : wr.rowIs (N + 4) 40 3 (grF rv (.slice none 0 0) hh)
  rt : wr.ownsRow (N + 5) 2 1 rv rl.length (icells rl)
  ap : ∀ b, rv.ownBlock = some b → ov.ownBlock ≠ some b

/-- A root comes behind the others. -/
theorem Sh1.root {N : Nat} {W0 wr w2 w3 : World} {hh : Int} {o : List Nat} {rl : List Int} {ov rv rv1 : Value} {x : Int} (s : Sh1 N W0 wr hh o rl ov rv) (a : Below wr.heap.size wr w2)
    (ho : w3.ownsRow (N + 5) 2 1 rv1 (rl.length + 1) (icells rl ++ [.int .i64 x])) (g : w2.grownBy w3 rv.ownBlock) (hl : rv1.ownBlock = rv.ownBlock ∨ rv1.ownBlock = some w2.heap.size) :
    Sh1 N W0 (w3.setCell ⟨N + 4, 0, none⟩ rv1) hh o (rl ++ [x]) ov rv1 := by
  have hsz := s.sz
  have ob := s.ord.lt
  have rb := s.rt.lt
  have az := a.size
  have G1 : Grew wr w3 (fun k => rv.ownBlock = some k) := (Grew.new a _).trans (Grew.grown g)
  have gg := G1.row s.g (fun q => by have := (rb _ q).1; omega)
  have G2 := Grew.set w3 (N + 4) 0 rv1
  have ne4 : ∀ b, rv1.ownBlock = some b → b ≠ N + 4 := fun b e => by have := (ho.lt b e).1; omega
  refine ⟨(s.bel.trans (G1.below (by omega) fun b _ q => by have := (rb b q).1; omega)).trans (G2.below (by have := G1.size; omega) fun b _ q => by omega), ?_, ?_, ?_, s.ordg, gr_set0 gg rv1, ?_, ?_⟩
  · have := G1.size; have := G2.size; omega
  · exact G2.row (G1.row s.num (fun q => by have := (rb _ q).1; omega)) (by omega)
  · exact G2.own (G1.own s.ord (fun b e q => s.ap b q e)) (fun b e q => s.ordg (by rw [e, q]))
  · have := G2.own ho ne4
    simpa [icells] using this
  · intro b e q
    have := (ob b q).2
    rcases hl with k | k
    · exact s.ap b (by rw [← k]; exact e) q
    · rw [k] at e; simp at e; omega

/-- A graph in the making: its nodes come. K: the blocks of what is done. -/
structure Sh2 (N : Nat) (W0 wr : World) (hh : Int) (o : List Nat) (rl : List Int) (ns : List Nd) (ov rv nv : Value) (K : Nat → Prop) : Prop where
  bel : Below (N + 2) W0 wr
  sz : N + 5 ≤ wr.heap.size
  num : wr.rowIs (N + 2) 2 3200 (nmF o)
  ord : wr.ownsRow (N + 3) 2 1 ov o.length (icells (ints o))
  ordg : ov.ownBlock ≠ some (N + 4)
  g : wr.rowIs (N + 4) 40 3 (grF rv nv hh)
  nd : NK (N + 5) wr nv ns K
  ndb : ∀ b, nv.ownBlock = some b → N + 5 ≤ b ∧ b < wr.heap.size ∧ ov.ownBlock ≠ some b
  rt : IR wr rv rl ∧ ∀ b, inB rv b → K b
  kk : ∀ b, K b → N + 5 ≤ b ∧ b < wr.heap.size ∧ ov.ownBlock ≠ some b ∧ nv.ownBlock ≠ some b

theorem Sh1.two {N : Nat} {W0 wr : World} {hh : Int} {o : List Nat} {rl : List Int} {ov rv : Value} (s : Sh1 N W0 wr hh o rl ov rv) : Sh2 N W0 wr hh o rl [] ov rv (.slice none 0 0) (fun b => rv.ownBlock = some b) :=
  ⟨s.bel, s.sz, s.num, s.ord, s.ordg, s.g, ⟨[], fun _ => .slice none 0 0, World.ownsRow_nil _ _ _ _, Trip.nil _, fun i hi => by simp at hi⟩, fun b e => by simp [Value.ownBlock] at e,
    ⟨IR_of_owns s.rt, fun b k => inB_own s.rt k⟩, fun b e => ⟨(s.rt.lt b e).1, (s.rt.lt b e).2, s.ap b e, by simp [Value.ownBlock]⟩⟩

theorem Sh2.new {N : Nat} {W0 wr w1 : World} {hh : Int} {o : List Nat} {rl : List Int} {ns : List Nd} {ov rv nv : Value} {K : Nat → Prop} (s : Sh2 N W0 wr hh o rl ns ov rv nv K) {S : Nat → Prop} (g : Grew wr w1 S)
    (h1 : ∀ b, S b → N + 5 ≤ b ∧ ov.ownBlock ≠ some b ∧ nv.ownBlock ≠ some b ∧ ¬ K b) : Sh2 N W0 w1 hh o rl ns ov rv nv K := by
  have hsz := s.sz
  have gsz := g.size
  refine ⟨s.bel.trans (g.below (by omega) fun b _ q => by have := (h1 b q).1; omega), by omega, g.row s.num (fun q => by have := (h1 _ q).1; omega), g.own s.ord (fun b e q => (h1 b q).2.1 e), s.ordg, g.row s.g (fun q => by have := (h1 _ q).1; omega),
    g.nk s.nd (fun b e q => (h1 b q).2.2.1 e) (fun b k q => (h1 b q).2.2.2 k), fun b e => ?_, ⟨g.ir s.rt.1 (fun b q k => (h1 b k).2.2.2 (s.rt.2 b q)), s.rt.2⟩, fun b k => ?_⟩
  · obtain ⟨q1, q2, q3⟩ := s.ndb b e
    exact ⟨q1, by omega, q3⟩
  · obtain ⟨q1, q2, q3, q4⟩ := s.kk b k
    exact ⟨q1, by omega, q3, q4⟩

/-- .. and one of them has its fields coming. -/
structure Sh3 (N : Nat) (W0 wr : World) (hh : Int) (o : List Nat) (rl : List Int) (ns : List Nd) (ov rv nv : Value) (K : Nat → Prop) (bn : Nat) (c z : Int) (fl : List Int) (fv : Value) : Prop where
  s : Sh2 N W0 wr hh o rl ns ov rv nv K
  bnl : N + 5 ≤ bn
  bnk : ¬ K bn ∧ ov.ownBlock ≠ some bn ∧ nv.ownBlock ≠ some bn ∧ fv.ownBlock ≠ some bn
  nb : wr.rowIs bn 72 3 (ndF c z fv)
  fo : wr.ownsRow (N + 5) 2 1 fv fl.length (icells fl)
  fap : ∀ b, fv.ownBlock = some b → ov.ownBlock ≠ some b ∧ nv.ownBlock ≠ some b ∧ ¬ K b

/-- A field comes behind the others. -/
theorem Sh3.field {N : Nat} {W0 wr w2 w3 : World} {hh : Int} {o : List Nat} {rl : List Int} {ns : List Nd} {ov rv nv : Value} {K : Nat → Prop} {bn : Nat} {c z x : Int} {fl : List Int} {fv fv1 : Value} (s : Sh3 N W0 wr hh o rl ns ov rv nv K bn c z fl fv)
    (a : Below wr.heap.size wr w2) (ho : w3.ownsRow (N + 5) 2 1 fv1 (fl.length + 1) (icells fl ++ [.int .i64 x])) (g : w2.grownBy w3 fv.ownBlock) (hl : fv1.ownBlock = fv.ownBlock ∨ fv1.ownBlock = some w2.heap.size) :
    Sh3 N W0 (w3.setCell ⟨bn, 2, none⟩ fv1) hh o rl ns ov rv nv K bn c z (fl ++ [x]) fv1 := by
  have hb := s.bnl
  have hlt := s.nb.lt
  have az := a.size
  have G1 : Grew wr w3 (fun k => fv.ownBlock = some k) := (Grew.new a _).trans (Grew.grown g)
  have G2 := Grew.set w3 bn 2 fv1
  have f1 : ∀ b, fv1.ownBlock = some b → fv.ownBlock = some b ∨ wr.heap.size ≤ b := fun b e => by
    rcases hl with k | k
    · exact .inl (by rw [← k]; exact e)
    · rw [k] at e; simp at e; exact .inr (by omega)
  have nbn : fv1.ownBlock ≠ some bn := fun e => by
    rcases f1 bn e with k | k
    · exact s.bnk.2.2.2 k
    · omega
  refine ⟨(s.s.new G1 fun b e => ⟨(s.fo.lt b e).1, s.fap b e⟩).new G2 fun b e => ?_, hb, ⟨s.bnk.1, s.bnk.2.1, s.bnk.2.2.1, nbn⟩, nd_set2 (G1.row s.nb s.bnk.2.2.2) fv1, ?_, fun b e => ?_⟩
  · subst e
    exact ⟨hb, s.bnk.2.1, s.bnk.2.2.1, s.bnk.1⟩
  · have := G2.own ho (fun b e q => nbn (by rw [e, q]))
    simpa [icells] using this
  · rcases f1 b e with k | k
    · exact s.fap b k
    · refine ⟨fun q => ?_, fun q => ?_, fun q => ?_⟩
      · have := (s.s.ord.lt b q).2; omega
      · have := (s.s.ndb b q).2.1; omega
      · have := (s.s.kk b q).2.1; omega
/-- The node is done, and comes behind the others. -/
theorem Sh3.done {N : Nat} {W0 wr w2 w3 : World} {hh : Int} {o : List Nat} {rl : List Int} {ns : List Nd} {ov rv nv nv1 : Value} {K : Nat → Prop} {bn : Nat} {c z : Int} {fl : List Int} {fv : Value} (s : Sh3 N W0 wr hh o rl ns ov rv nv K bn c z fl fv)
    (a : Below wr.heap.size wr w2) {xs : List Value} {fw : Nat → Value} (ht : Trip xs ns fw) (hf : ∀ i, i < ns.length → IR wr (fw i) (ns.getD i nd0).fl ∧ ∀ b, inB (fw i) b → K b)
    (ho : w3.ownsRow (N + 5) 72 3 nv1 (ns.length + 1) (xs ++ [.int .i64 c, .int .i64 z, fv])) (g : w2.grownBy w3 nv.ownBlock) (hl : nv1.ownBlock = nv.ownBlock ∨ nv1.ownBlock = some w2.heap.size) :
    Sh2 N W0 (w3.setCell ⟨N + 4, 1, none⟩ nv1) hh o rl (ns ++ [⟨c, z, fl⟩]) ov rv nv1 (fun b => K b ∨ fv.ownBlock = some b) := by
  have hsz := s.s.sz
  have az := a.size
  have G1 : Grew wr w3 (fun k => nv.ownBlock = some k) := (Grew.new a _).trans (Grew.grown g)
  have G2 := Grew.set w3 (N + 4) 1 nv1
  have g1z := G1.size
  have g2z := G2.size
  have n1 : ∀ b, nv1.ownBlock = some b → nv.ownBlock = some b ∨ wr.heap.size ≤ b := fun b e => by
    rcases hl with k | k
    · exact .inl (by rw [← k]; exact e)
    · rw [k] at e; simp at e; exact .inr (by omega)
  have n5 : ∀ b, nv1.ownBlock = some b → N + 5 ≤ b := fun b e => (ho.lt b e).1
  refine ⟨(s.s.bel.trans (G1.below (by omega) fun b _ q => by have := (s.s.ndb b q).1; omega)).trans (G2.below (by omega) fun b _ q => by omega), by omega, ?_, ?_, s.s.ordg, gr_set1 (G1.row s.s.g fun q => by have := (s.s.ndb _ q).1; omega) nv1, ?_, fun b e => ⟨n5 b e, ?_, fun q => ?_⟩, ⟨?_, fun b q => .inl (s.s.rt.2 b q)⟩, ?_⟩
  · exact G2.row (G1.row s.s.num fun q => by have := (s.s.ndb _ q).1; omega) (by omega)
  · exact G2.own (G1.own s.s.ord fun b e q => (s.s.ndb b q).2.2 e) (fun b e q => s.s.ordg (by rw [e, q]))
  · refine ⟨_, _, (show (w3.setCell ⟨N + 4, 1, none⟩ nv1).ownsRow (N + 5) _ 3 nv1 (ns ++ [(⟨c, z, fl⟩ : Nd)]).length _ from ?_), ht.snoc c z fl fv, fun i hi => ?_⟩
    · have := G2.own ho (fun b e q => by have := n5 b e; omega)
      simpa using this
    · have hi' : i < ns.length + 1 := by simpa using hi
      by_cases e : i = ns.length
      · subst e
        have e2 : (ns ++ [(⟨c, z, fl⟩ : Nd)]).getD ns.length nd0 = ⟨c, z, fl⟩ := by simp
        rw [if_pos rfl, e2]
        refine ⟨G2.ir (G1.ir (IR_of_owns s.fo) fun b q k => ?_) fun b q k => ?_, fun b q => .inr (inB_own s.fo q)⟩
        · exact (s.fap b (inB_own s.fo q)).2.1 k
        · have := (s.fo.lt b (inB_own s.fo q)).1; omega
      · have hlt : i < ns.length := by omega
        have eg : (ns ++ [(⟨c, z, fl⟩ : Nd)]).getD i nd0 = ns.getD i nd0 := by simp [List.getD_eq_getElem?_getD, List.getElem?_append_left hlt]
        rw [if_neg e, eg]
        obtain ⟨f1, f2⟩ := hf i hlt
        refine ⟨G2.ir (G1.ir f1 fun b q k => (s.s.kk b (f2 b q)).2.2.2 k) fun b q k => ?_, fun b q => .inl (f2 b q)⟩
        have := (s.s.kk b (f2 b q)).1; omega
  · have := (ho.lt b e).2; omega
  · rcases n1 b e with k | k
    · exact (s.s.ndb b k).2.2 q
    · have := (s.s.ord.lt b q).2; omega
  · refine G2.ir (G1.ir s.s.rt.1 fun b q k => (s.s.kk b (s.s.rt.2 b q)).2.2.2 k) fun b q k => ?_
    have := (s.s.kk b (s.s.rt.2 b q)).1; omega
  · rintro b (k | k)
    · obtain ⟨k1, k2, k3, k4⟩ := s.s.kk b k
      exact ⟨k1, by omega, k3, fun q => by
        rcases n1 b q with e | e
        · exact k4 e
        · omega⟩
    · obtain ⟨k1, k2⟩ := s.fo.lt b k
      obtain ⟨k3, k4, k5⟩ := s.fap b k
      exact ⟨k1, by omega, k3, fun q => by
        rcases n1 b q with e | e
        · exact k4 e
        · omega⟩

end Go.Proofs.YthdffigckohpoaaGreat

/- l6Shape of the model: the graph of a right heap. -/
namespace Go.Proofs.YthdffigckohpoaaGreat
open Go.RowKit

theorem gr_store {w : World} {b t : Nat} {rv nv u0 u1 : Value} {hh h2 : Int} (h : w.rowIs b t 3 (grF rv nv hh)) :
    (((w.setCell ⟨b, 0, none⟩ u0).setCell ⟨b, 1, none⟩ u1).setCell ⟨b, 2, none⟩ (.int .i64 h2)).rowIs b t 3 (grF u0 u1 h2) ∧ Grew w (((w.setCell ⟨b, 0, none⟩ u0).setCell ⟨b, 1, none⟩ u1).setCell ⟨b, 2, none⟩ (.int .i64 h2)) (fun k => k = b) := by
  refine ⟨((gr_set1 (gr_set0 h u0) u1).set 2 _).congr fun i hi => ?_, ((Grew.set _ _ _ _).trans (Grew.set _ _ _ _)).trans (Grew.set _ _ _ _)⟩
  unfold grF
  by_cases e : i = 2
  · simp [e]
  · rw [if_neg e]
    by_cases e0 : i = 0
    · simp [e0]
    · by_cases e1 : i = 1
      · simp [e1]
      · omega
theorem Sh2.node {N : Nat} {W0 wr : World} {hh : Int} {o : List Nat} {rl : List Int} {ns : List Nd} {ov rv nv : Value} {K : Nat → Prop} (s : Sh2 N W0 wr hh o rl ns ov rv nv K) (c z : Int) :
    Sh3 N W0 (wr.alloc (.cells #[.int .i64 c, .int .i64 z, .slice none 0 0] 72)).drew hh o rl ns ov rv nv K wr.heap.size c z [] (.slice none 0 0) := by
  refine ⟨s.new (S := fun _ => False) (Grew.new (bel_one _ _) _).drew (fun b q => q.elim), s.sz, ⟨fun q => ?_, fun q => ?_, fun q => ?_, by simp [Value.ownBlock]⟩, ?_, World.ownsRow_nil _ _ _ _, fun b e => by simp [Value.ownBlock] at e⟩
  · have := (s.kk _ q).2.1; omega
  · have := (s.ord.lt _ q).2; omega
  · have := (s.ndb _ q).2.1; omega
  · exact World.rowIs_alloc wr #[.int .i64 c, .int .i64 z, .slice none 0 0] _ _ (fun i hi => by
      match i, hi with
      | 0, _ => rfl
      | 1, _ => rfl
      | 2, _ => rfl)


end Go.Proofs.YthdffigckohpoaaGreat
