
import Derived.Test.YthdffigckohpoaaGreatZCDone
import Derived.Test.YthdffigckohpoaaGreatZV15
import Derived.Test.YthdffigckohpoaaGreatZV13
import Derived.Test.YthdffigckohpoaaGreatZV7
import Derived.Test.YthdffigckohpoaaGreatZV1
/- Compact of the program. -/
namespace Go.Proofs.YthdffigckohpoaaGreat
open Go.RowKit
theorem coP_hm {B B2 : Nat} {w9 : World} {g1 cR : Nat} {ro : Option Addr} {h : Hp} (T1 : RI w9 g1 (coP h).words 3200) (hl : (coP h).words.length = 3200) (T2 : w9.ownsRow B2 2 1 (.slice ro h.roots.length cR) h.roots.length (icells (h.roots.map (rnM (plF h.words (rchL h) (rchL h).length))))) (hB : B <= g1) (h12 : g1 < B2) :
  HM B w9 (.agg #[.slice (some ⟨g1, 0, none⟩) 3200 3200, .slice ro h.roots.length cR, .int .i64 (szS h.words (rchL h)), .int .i64 2000, .int .i64 2600, .bool false, .int .i64 h.hash, .slice none 0 0]) (coP h) := by
 have O1 := T1.owns (B := B) hB (by unfold maxLen; omega)
 rw [hl] at O1
 refine HM.of_owns (h := coP h) hl.symm O1 (by simp [coP]) (own_down T2 (by omega)) rfl (nil_owns _ _) (fun b q => ⟨fun e => by have := own_low T2 e; have := own_is q; omega, fun e => by cases e⟩) (fun b q e => by cases e)
set_option maxRecDepth 1000000 in
set_option maxHeartbeats 6400000 in
theorem implCompact_c (v : Value) (h : Hp) (w : World) (hv : HR w v h) (hwo : h.words.length <= 1000000000000) (hro : h.roots.length <= 1000000000000) (hke : h.kept.length <= 1000000000000) :
  Calls Tryz.prog 8 #[v] w fun e w' => (∃ u, e = .returned (.tuple #[u, .bool (coB h)]) /\ HN w.heap.size w' u (coC h)) /\ Below w.heap.size w w' := by
 obtain ⟨v1, v2, v3, rfl, i1, i2, i3⟩ := id hv
 have hb0 : Below w.heap.size w ((w.alloc (.cells #[v1, v2, .int .i64 h.old, .int .i64 h.eden, .int .i64 h.surv, .bool h.flip, .int .i64 h.hash, v3] 26)).alloc (.cells #[.slice none 0 0, .slice none 0 0, .int .i64 0, .int .i64 0, .int .i64 0, .bool false, .int .i64 0, .slice none 0 0] 26)) := bel_after (bel_one _ _) (bel_one _ _)
 have X0 := (Bx.new w v1 v2 v3 h 26).later (bel_one _ (.cells #[.slice none 0 0, .slice none 0 0, .int .i64 0, .int .i64 0, .int .i64 0, .bool false, .int .i64 0, .slice none 0 0] 26))
 have RR0 := row_any (w.alloc (.cells #[v1, v2, .int .i64 h.old, .int .i64 h.eden, .int .i64 h.surv, .bool h.flip, .int .i64 h.hash, v3] 26)) #[.slice none 0 0, .slice none 0 0, .int .i64 0, .int .i64 0, .int .i64 0, .bool false, .int .i64 0, .slice none 0 0] 26
 rw [World.size_alloc] at RR0
 have z0 : ((w.alloc (.cells #[v1, v2, .int .i64 h.old, .int .i64 h.eden, .int .i64 h.surv, .bool h.flip, .int .i64 h.hash, v3] 26)).alloc (.cells #[.slice none 0 0, .slice none 0 0, .int .i64 0, .int .i64 0, .int .i64 0, .bool false, .int .i64 0, .slice none 0 0] 26)).heap.size = w.heap.size + 2 := by simp
 have C0 := compactionOf_c _ h _ (hv.later hb0) hwo hro hke
 obtain ⟨x0, x1, x2, x3, x4, x5, x6, x7⟩ := id X0
 clear i1 i2 i3 X0 hv
 go_enter Tryz.func8, Tryz.ntmps8
 go_wp2_with fail
 refine C0.mono ?_
 rintro e w1 ⟨D, hb1⟩
 have hbw1 := bel_after hb0 hb1
 have RR1 := RR0.of_block (hb1.block _ RR0.lt)
 have s1 := hb1.size
 rw [z0] at s1
 clear x0 x1 x2 x3 x4 x5 x6 x7 C0 RR0
 rcases D with ⟨hk, g1, g2, g3, oa, oc, gr, cr, M, rfl, ⟨Q1, Q2, Q3⟩, io, Qr, hm, ⟨l1, l2, l3, l4, l5, l6⟩⟩ | ⟨hk, rfl⟩
 ·rw [z0] at l1
  have al := bel_one w1 (.cells #[.slice (some ⟨g1, 0, none⟩) 3200 3200, .slice oa (obC h).length oc, .slice (some ⟨g2, 0, none⟩) h.roots.length h.roots.length, .int .i64 h.old, .int .i64 h.eden, .int .i64 h.surv, .bool h.flip, .int .i64 h.hash, .slice (some ⟨g3, 0, none⟩) h.kept.length h.kept.length, .slice (some ⟨gr, 0, none⟩) (rchL h).length cr, .map (some M), .int .i64 (szS h.words (rchL h))] 52)
  have hbw2 := bel_after hbw1 al
  have RR2 := RR1.of_block (al.block _ RR1.lt)
  have BX := row_any w1 #[.slice (some ⟨g1, 0, none⟩) 3200 3200, .slice oa (obC h).length oc, .slice (some ⟨g2, 0, none⟩) h.roots.length h.roots.length, .int .i64 h.old, .int .i64 h.eden, .int .i64 h.surv, .bool h.flip, .int .i64 h.hash, .slice (some ⟨g3, 0, none⟩) h.kept.length h.kept.length, .slice (some ⟨gr, 0, none⟩) (rchL h).length cr, .map (some M), .int .i64 (szS h.words (rchL h))] 52
  have s2 : (w1.alloc (.cells #[.slice (some ⟨g1, 0, none⟩) 3200 3200, .slice oa (obC h).length oc, .slice (some ⟨g2, 0, none⟩) h.roots.length h.roots.length, .int .i64 h.old, .int .i64 h.eden, .int .i64 h.surv, .bool h.flip, .int .i64 h.hash, .slice (some ⟨g3, 0, none⟩) h.kept.length h.kept.length, .slice (some ⟨gr, 0, none⟩) (rchL h).length cr, .map (some M), .int .i64 (szS h.words (rchL h))] 52)).heap.size = w1.heap.size + 1 := by simp
  have lg := Q1.lt
  by_cases hfit : szS h.words (rchL h) <= 2000
  ·have e0 : Hid (coB h = true /\ coC h = coP h) := (by
    have e0 : coB h = true := by unfold coB; rw [hk]; simp; omega
    exact ⟨e0, by unfold coC; rw [e0]; rfl⟩)
   have hl : (coP h).words.length = 3200 := by
    have sz := outW_size (plF h.words (rchL h) (rchL h).length) (l := rchL h) (fun a ha => ((rch_obs hk).2 a ha).2.1)
    show (outW _ _ _ ++ List.replicate _ 0).length = 3200
    rw [List.length_append, List.length_replicate]
    omega
   have al2 := bel_one (w1.alloc (.cells #[.slice (some ⟨g1, 0, none⟩) 3200 3200, .slice oa (obC h).length oc, .slice (some ⟨g2, 0, none⟩) h.roots.length h.roots.length, .int .i64 h.old, .int .i64 h.eden, .int .i64 h.surv, .bool h.flip, .int .i64 h.hash, .slice (some ⟨g3, 0, none⟩) h.kept.length h.kept.length, .slice (some ⟨gr, 0, none⟩) (rchL h).length cr, .map (some M), .int .i64 (szS h.words (rchL h))] 52)) (.cells #[.slice none 0 0, .slice none 0 0, .int .i64 0, .int .i64 0, .int .i64 0, .bool false, .int .i64 0, .slice none 0 0] 26)
   have ala := bel_after al al2
   have N : DN (w.heap.size + 2) (w1.alloc (.cells #[.slice (some ⟨g1, 0, none⟩) 3200 3200, .slice oa (obC h).length oc, .slice (some ⟨g2, 0, none⟩) h.roots.length h.roots.length, .int .i64 h.old, .int .i64 h.eden, .int .i64 h.surv, .bool h.flip, .int .i64 h.hash, .slice (some ⟨g3, 0, none⟩) h.kept.length h.kept.length, .slice (some ⟨gr, 0, none⟩) (rchL h).length cr, .map (some M), .int .i64 (szS h.words (rchL h))] 52)).heap.size w1.heap.size g1 g2 gr M := ⟨l1, s1, by omega, by omega, by omega, by omega, by omega, by omega, by omega, by omega⟩
   have K0 : DJ h (w1.alloc (.cells #[.slice (some ⟨g1, 0, none⟩) 3200 3200, .slice oa (obC h).length oc, .slice (some ⟨g2, 0, none⟩) h.roots.length h.roots.length, .int .i64 h.old, .int .i64 h.eden, .int .i64 h.surv, .bool h.flip, .int .i64 h.hash, .slice (some ⟨g3, 0, none⟩) h.kept.length h.kept.length, .slice (some ⟨gr, 0, none⟩) (rchL h).length cr, .map (some M), .int .i64 (szS h.words (rchL h))] 52)) (w.heap.size + 2) (w1.alloc (.cells #[.slice (some ⟨g1, 0, none⟩) 3200 3200, .slice oa (obC h).length oc, .slice (some ⟨g2, 0, none⟩) h.roots.length h.roots.length, .int .i64 h.old, .int .i64 h.eden, .int .i64 h.surv, .bool h.flip, .int .i64 h.hash, .slice (some ⟨g3, 0, none⟩) h.kept.length h.kept.length, .slice (some ⟨gr, 0, none⟩) (rchL h).length cr, .map (some M), .int .i64 (szS h.words (rchL h))] 52)).heap.size w1.heap.size g1 g2 gr cr M (.slice oa (obC h).length oc) (.slice (some ⟨g3, 0, none⟩) h.kept.length h.kept.length) 0 ((w1.alloc (.cells #[.slice (some ⟨g1, 0, none⟩) 3200 3200, .slice oa (obC h).length oc, .slice (some ⟨g2, 0, none⟩) h.roots.length h.roots.length, .int .i64 h.old, .int .i64 h.eden, .int .i64 h.surv, .bool h.flip, .int .i64 h.hash, .slice (some ⟨g3, 0, none⟩) h.kept.length h.kept.length, .slice (some ⟨gr, 0, none⟩) (rchL h).length cr, .map (some M), .int .i64 (szS h.words (rchL h))] 52)).alloc (.cells #[.slice none 0 0, .slice none 0 0, .int .i64 0, .int .i64 0, .int .i64 0, .bool false, .int .i64 0, .slice none 0 0] 26)) :=
    ⟨al2.mono (by omega), ⟨h.words, Q1.later ala, dw_start hk _⟩, Q2.later ala, Qr.later ala, hm.later ala, BX.of_block (al2.block _ BX.lt), ⟨_, row_any (w1.alloc (.cells #[.slice (some ⟨g1, 0, none⟩) 3200 3200, .slice oa (obC h).length oc, .slice (some ⟨g2, 0, none⟩) h.roots.length h.roots.length, .int .i64 h.old, .int .i64 h.eden, .int .i64 h.surv, .bool h.flip, .int .i64 h.hash, .slice (some ⟨g3, 0, none⟩) h.kept.length h.kept.length, .slice (some ⟨gr, 0, none⟩) (rchL h).length cr, .map (some M), .int .i64 (szS h.words (rchL h))] 52)) #[.slice none 0 0, .slice none 0 0, .int .i64 0, .int .i64 0, .int .i64 0, .bool false, .int .i64 0, .slice none 0 0] 26⟩⟩
   have DC := done_loop (w1.alloc (.cells #[.slice (some ⟨g1, 0, none⟩) 3200 3200, .slice oa (obC h).length oc, .slice (some ⟨g2, 0, none⟩) h.roots.length h.roots.length, .int .i64 h.old, .int .i64 h.eden, .int .i64 h.surv, .bool h.flip, .int .i64 h.hash, .slice (some ⟨g3, 0, none⟩) h.kept.length h.kept.length, .slice (some ⟨gr, 0, none⟩) (rchL h).length cr, .map (some M), .int .i64 (szS h.words (rchL h))] 52)) (w.heap.size + 2) w1.heap.size g1 g2 gr cr M (.slice oa (obC h).length oc) (.slice (some ⟨g3, 0, none⟩) h.kept.length h.kept.length) h hk hfit ⟨_, _, _, rfl⟩ N K0 (by omega)
   have HLH : Hid ((coP h).words.length = 3200) := hl
   rw [decide_eq_true hfit]
   clear K0 N al2 ala hl Q1 Q2 Q3 Qr io hm BX hfit
   go_wp2_with fail
   refine DC.mono ?_
   rintro e w3 ⟨⟨rv, rfl, TW, B2, lB, OW⟩, hb3⟩
   obtain ⟨ro, cR, rfl⟩ := own_shape OW
   have RR3 := RR2.of_block (hb3.block _ (by omega))
   have BL3 : Below w.heap.size w w3 := hbw2.trans (hb3.mono (by omega))
   have OKC : (#[.slice (some ⟨g1, 0, none⟩) 3200 3200, .slice ro h.roots.length cR, .int .i64 (szS h.words (rchL h)), .int .i64 2000, .int .i64 2600, .bool false, .int .i64 h.hash, .slice none 0 0] : Array Value).all (·.oneCell') = true := by simp [Value.oneCell']
   clear DC RR2 hbw2 hb3 RR1 hb1 hb0 al
   go_wp2_with ((with_reducible refine store_box _ ?_ (.tmp 2) (.tmp 14) 26 ?_ 26 (w.heap.size + 1) 8 #[.slice (some ⟨g1, 0, none⟩) 3200 3200, .slice ro h.roots.length cR, .int .i64 (szS h.words (rchL h)), .int .i64 2000, .int .i64 2600, .bool false, .int .i64 h.hash, .slice none 0 0] _ ?_ ?_ RR3 ?_ ?_ OKC ?_); rfl; rfl; rfl; rfl; rfl; kernel_rfl; intro w9 F9 G9)
   obtain ⟨r0, r1, r2, r3, r4, r5, r6, r7⟩ := zrc8 F9
   have TW9 := TW.grown G9 (fun e => by have := Option.some.inj e; omega)
   have OW9 := (Grew.grown G9).own OW (fun b e z => by have := (OW.lt b e).1; have := Option.some.inj z; omega)
   have BF := Below.grown BL3 G9 BL3.size (fun q e => by cases e; omega)
   have HF := (coP_hm (B := w.heap.size) TW9 HLH.out OW9 (by omega) lB).hn
   exact bodyPost_ret (v := .tuple #[.agg #[.slice (some ⟨g1, 0, none⟩) 3200 3200, .slice ro h.roots.length cR, .int .i64 (szS h.words (rchL h)), .int .i64 2000, .int .i64 2600, .bool false, .int .i64 h.hash, .slice none 0 0], .bool true]) (by simp [results, Tryz.results8, go_sem, r0, r1, r2, r3, r4, r5, r6, r7]) rfl ⟨⟨_, by rw [e0.out.1], by rw [e0.out.2]; exact HF⟩, BF⟩
  ·have e0 : Hid (coB h = false /\ coC h = zeroH) := (by
    have e0 : coB h = false := by unfold coB; rw [hk]; simp; omega
    exact ⟨e0, by unfold coC; rw [e0]; rfl⟩)
   rw [decide_eq_false hfit]
   have OKC : (#[.slice none 0 0, .slice none 0 0, .int .i64 0, .int .i64 0, .int .i64 0, .bool false, .int .i64 0, .slice none 0 0] : Array Value).all (·.oneCell') = true := by simp [Value.oneCell']
   clear hfit Q1 Q2 Q3 Qr io hm BX
   go_wp2_with ((with_reducible refine store_box _ ?_ (.tmp 2) (.tmp 13) 26 ?_ 26 (w.heap.size + 1) 8 #[.slice none 0 0, .slice none 0 0, .int .i64 0, .int .i64 0, .int .i64 0, .bool false, .int .i64 0, .slice none 0 0] _ ?_ ?_ RR2 ?_ ?_ OKC ?_); rfl; rfl; rfl; rfl; rfl; kernel_rfl; intro w9 F9 G9)
   obtain ⟨r0, r1, r2, r3, r4, r5, r6, r7⟩ := zrc8 F9
   have BF := Below.grown hbw2 G9 hbw2.size (fun q e => by cases e; omega)
   exact bodyPost_ret (v := .tuple #[.agg #[.slice none 0 0, .slice none 0 0, .int .i64 0, .int .i64 0, .int .i64 0, .bool false, .int .i64 0, .slice none 0 0], .bool false]) (by simp [results, Tryz.results8, go_sem, r0, r1, r2, r3, r4, r5, r6, r7]) rfl ⟨⟨_, by rw [e0.out.1], by rw [e0.out.2]; exact zero_hn _ _⟩, BF⟩
 ·have e0 : Hid (coB h = false /\ coC h = zeroH) := (by
   have e0 : coB h = false := by unfold coB; rw [hk]; rfl
   exact ⟨e0, by unfold coC; rw [e0]; rfl⟩)
  have al := bel_one w1 (.cells #[.slice none 0 0, .slice none 0 0, .slice none 0 0, .int .i64 0, .int .i64 0, .int .i64 0, .bool false, .int .i64 0, .slice none 0 0, .slice none 0 0, .map none, .int .i64 0] 52)
  have hbw2 := bel_after hbw1 al
  have RR2 := RR1.of_block (al.block _ RR1.lt)
  have OKC : (#[.slice none 0 0, .slice none 0 0, .int .i64 0, .int .i64 0, .int .i64 0, .bool false, .int .i64 0, .slice none 0 0] : Array Value).all (·.oneCell') = true := by simp [Value.oneCell']
  go_wp2_with ((with_reducible refine store_box _ ?_ (.tmp 2) (.tmp 13) 26 ?_ 26 (w.heap.size + 1) 8 #[.slice none 0 0, .slice none 0 0, .int .i64 0, .int .i64 0, .int .i64 0, .bool false, .int .i64 0, .slice none 0 0] _ ?_ ?_ RR2 ?_ ?_ OKC ?_); rfl; rfl; rfl; rfl; rfl; kernel_rfl; intro w9 F9 G9)
  obtain ⟨r0, r1, r2, r3, r4, r5, r6, r7⟩ := zrc8 F9
  have BF := Below.grown hbw2 G9 hbw2.size (fun q e => by cases e; omega)
  exact bodyPost_ret (v := .tuple #[.agg #[.slice none 0 0, .slice none 0 0, .int .i64 0, .int .i64 0, .int .i64 0, .bool false, .int .i64 0, .slice none 0 0], .bool false]) (by simp [results, Tryz.results8, go_sem, r0, r1, r2, r3, r4, r5, r6, r7]) rfl ⟨⟨_, by rw [e0.out.1], by rw [e0.out.2]; exact zero_hn _ _⟩, BF⟩
end Go.Proofs.YthdffigckohpoaaGreat
/- l6Told of the model: a word with its object's number. -/
namespace Go.Proofs.YthdffigckohpoaaGreat
open Go.RowKit
/-- The numbers of the objects that were found, one more each, nought for none. -/
def nmF (o : List Nat) (i : Nat) : Value := .int .i64 (if i ∈ o then ((o.idxOf i : Nat) : Int) + 1 else 0)
end Go.Proofs.YthdffigckohpoaaGreat
/- Rows of nodes, and graphs that were made since. -/
namespace Go.Proofs.YthdffigckohpoaaGreat
open Go.RowKit
/-- The cells of a row of nodes. -/
def Trip (xs : List Value) (ns : List Nd) (fv : Nat -> Value) : Prop :=
 xs.length = ns.length * 3 /\ ∀ i, i < ns.length -> xs[i * 3]? = some (.int .i64 (ns.getD i nd0).cls) /\ xs[i * 3 + 1]? = some (.int .i64 (ns.getD i nd0).hash) /\ xs[i * 3 + 2]? = some (fv i)
theorem Trip.nil (fv : Nat -> Value) : Trip [] [] fv := ⟨rfl, fun i hi => by simp at hi⟩
theorem Trip.snoc {xs : List Value} {ns : List Nd} {fv : Nat -> Value} (h : Trip xs ns fv) (c z : Int) (fl : List Int) (f : Value) :
  Trip (xs ++ [.int .i64 c, .int .i64 z, f]) (ns ++ [⟨c, z, fl⟩]) (fun i => if i = ns.length then f else fv i) := by
 obtain ⟨hl, h⟩ := h
 refine ⟨by simp [hl]; omega, fun i hi => ?_⟩
 have hi' : i < ns.length + 1 := by simpa using hi
 by_cases e : i = ns.length
 ·subst e
  rw [<- hl, List.getElem?_append_right (by omega), List.getElem?_append_right (by omega), List.getElem?_append_right (by omega)]
  simp
 ·have hlt : i < ns.length := by omega
  obtain ⟨h0, h1, h2⟩ := h i hlt
  rw [List.getElem?_append_left (by omega), List.getElem?_append_left (by omega), List.getElem?_append_left (by omega)]
  have ef : (fun i => if i = ns.length then f else fv i) i = fv i := if_neg e
  rw [ef]
  have eg : (ns ++ [(⟨c, z, fl⟩ : Nd)]).getD i nd0 = ns.getD i nd0 := by simp [List.getD_eq_getElem?_getD, List.getElem?_append_left hlt]
  rw [eg]
  exact ⟨h0, h1, h2⟩
theorem own_cell3 {w : World} {B e : Nat} {v : Value} {n : Nat} {xs : List Value} (h : w.ownsRow B e 3 v n xs) : ∃ ao cap, v = .slice ao n cap /\ n <= cap /\ ∀ j, j < n * 3 -> ∃ b, ao = some ⟨b, 0, none⟩ /\ w.cell? ⟨b, j, none⟩ = xs[j]? := by
 obtain ⟨hl, h⟩ := h
 rcases h with ⟨rfl, rfl⟩ | ⟨g, cap, cur, rfl, hB, hh, h1, h2, h3, h4⟩
 ·exact ⟨none, 0, rfl, Nat.le_refl _, fun i hi => by omega⟩
 ·refine ⟨_, cap, rfl, h1, fun i hi => ⟨g, rfl, ?_⟩⟩
  rw [<- h4, List.getElem?_take_of_lt (by omega)]
  simp [World.cell?, hh]
/-- Nodes of which the row is owned and the fields read, in blocks of K. -/
def NK (B : Nat) (w : World) (nv : Value) (ns : List Nd) (K : Nat -> Prop) : Prop :=
 ∃ xs fv, w.ownsRow B 72 3 nv ns.length xs /\ Trip xs ns fv /\ ∀ i, i < ns.length -> IR w (fv i) (ns.getD i nd0).fl /\ ∀ b, inB (fv i) b -> K b
theorem NK.nr {B : Nat} {w : World} {nv : Value} {ns : List Nd} {K : Nat -> Prop} (h : NK B w nv ns K) : NR w nv ns := by
 obtain ⟨xs, fv, ho, ht, hf⟩ := h
 obtain ⟨ao, cap, rfl, hle, hc⟩ := own_cell3 ho
 refine ⟨ao, cap, rfl, hle, fun i hi => ?_⟩
 obtain ⟨b, rfl, c0⟩ := hc (i * 3) (by omega)
 obtain ⟨_, e1, c1⟩ := hc (i * 3 + 1) (by omega)
 obtain ⟨_, e2, c2⟩ := hc (i * 3 + 2) (by omega)
 cases e1
 cases e2
 obtain ⟨t0, t1, t2⟩ := ht.2 i hi
 obtain ⟨fa, fc, hfv, _⟩ := id (hf i hi).1
 refine ⟨b, 0, fa, (ns.getD i nd0).fl.length, fc, rfl, ?_, ?_, ?_, ?_⟩
 ·rw [Nat.zero_add, c0, t0]
 ·rw [Nat.zero_add, c1, t1]
 ·rw [Nat.zero_add, c2, t2, hfv]
 ·rw [<- hfv]
  exact (hf i hi).1
/-- A graph that was made since B. -/
def GRn (B : Nat) (w : World) (v : Value) (g : Gr) : Prop := ∃ vr vn K, v = .agg #[vr, vn, .int .i64 g.hash] /\ (IR w vr g.roots /\ ∀ b, inB vr b -> K b) /\ NK B w vn g.nodes K /\ ∀ b, K b -> B <= b
theorem GRn.gr {B : Nat} {w : World} {v : Value} {g : Gr} (h : GRn B w v g) : GR w v g := by
 obtain ⟨vr, vn, K, e, hr, hn, _⟩ := h
 exact ⟨vr, vn, e, hr.1, hn.nr⟩
end Go.Proofs.YthdffigckohpoaaGreat
/- Graphs as they are read, and the parts of one that is being made. -/
namespace Go.Proofs.YthdffigckohpoaaGreat
open Go.RowKit
theorem gr_set0 {w : World} {b t : Nat} {rv nv : Value} {hh : Int} (h : w.rowIs b t 3 (grF rv nv hh)) (u : Value) : (w.setCell ⟨b, 0, none⟩ u).rowIs b t 3 (grF u nv hh) :=
 (h.set 0 u).congr fun i _ => by unfold grF; by_cases e : i = 0 <;> simp [e]
theorem gr_set1 {w : World} {b t : Nat} {rv nv : Value} {hh : Int} (h : w.rowIs b t 3 (grF rv nv hh)) (u : Value) : (w.setCell ⟨b, 1, none⟩ u).rowIs b t 3 (grF rv u hh) :=
 (h.set 1 u).congr fun i _ => by
  unfold grF
  by_cases e : i = 1
  ·simp [e]
  ·by_cases e0 : i = 0
   ·simp [e0]
   ·simp [e, e0]
def ndF (c z : Int) (f : Value) (i : Nat) : Value := if i = 0 then .int .i64 c else if i = 1 then .int .i64 z else f
/-- A graph in the making: its roots come. -/
structure Sh1 (N : Nat) (W0 wr : World) (hh : Int) (o : List Nat) (rl : List Int) (ov rv : Value) : Prop where
 bel : Below (N + 2) W0 wr
 sz : N + 5 <= wr.heap.size
 num : wr.rowIs (N + 2) 2 3200 (nmF o)
 ord : wr.ownsRow (N + 3) 2 1 ov o.length (icells (ints o))
 ordg : ov.ownBlock ≠ some (N + 4)
 g : wr.rowIs (N + 4) 40 3 (grF rv (.slice none 0 0) hh)
 rt : wr.ownsRow (N + 5) 2 1 rv rl.length (icells rl)
 ap : ∀ b, rv.ownBlock = some b -> ov.ownBlock ≠ some b
/-- A graph in the making: its nodes come. K: the blocks of what is done. -/
structure Sh2 (N : Nat) (W0 wr : World) (hh : Int) (o : List Nat) (rl : List Int) (ns : List Nd) (ov rv nv : Value) (K : Nat -> Prop) : Prop where
 bel : Below (N + 2) W0 wr
 sz : N + 5 <= wr.heap.size
 num : wr.rowIs (N + 2) 2 3200 (nmF o)
 ord : wr.ownsRow (N + 3) 2 1 ov o.length (icells (ints o))
 ordg : ov.ownBlock ≠ some (N + 4)
 g : wr.rowIs (N + 4) 40 3 (grF rv nv hh)
 nd : NK (N + 5) wr nv ns K
 ndb : ∀ b, nv.ownBlock = some b -> N + 5 <= b /\ b < wr.heap.size /\ ov.ownBlock ≠ some b
 rt : IR wr rv rl /\ ∀ b, inB rv b -> K b
 kk : ∀ b, K b -> N + 5 <= b /\ b < wr.heap.size /\ ov.ownBlock ≠ some b /\ nv.ownBlock ≠ some b
/-- .. and one of them has its fields coming. -/
structure Sh3 (N : Nat) (W0 wr : World) (hh : Int) (o : List Nat) (rl : List Int) (ns : List Nd) (ov rv nv : Value) (K : Nat -> Prop) (bn : Nat) (c z : Int) (fl : List Int) (fv : Value) : Prop where
 s : Sh2 N W0 wr hh o rl ns ov rv nv K
 bnl : N + 5 <= bn
 bnk : ¬ K bn /\ ov.ownBlock ≠ some bn /\ nv.ownBlock ≠ some bn /\ fv.ownBlock ≠ some bn
 nb : wr.rowIs bn 72 3 (ndF c z fv)
 fo : wr.ownsRow (N + 5) 2 1 fv fl.length (icells fl)
 fap : ∀ b, fv.ownBlock = some b -> ov.ownBlock ≠ some b /\ nv.ownBlock ≠ some b /\ ¬ K b
end Go.Proofs.YthdffigckohpoaaGreat
/- l6Shape of the model: the graph of a right heap. -/
namespace Go.Proofs.YthdffigckohpoaaGreat
open Go.RowKit
theorem gr_store {w : World} {b t : Nat} {rv nv u0 u1 : Value} {hh h2 : Int} (h : w.rowIs b t 3 (grF rv nv hh)) :
  (((w.setCell ⟨b, 0, none⟩ u0).setCell ⟨b, 1, none⟩ u1).setCell ⟨b, 2, none⟩ (.int .i64 h2)).rowIs b t 3 (grF u0 u1 h2) /\ Grew w (((w.setCell ⟨b, 0, none⟩ u0).setCell ⟨b, 1, none⟩ u1).setCell ⟨b, 2, none⟩ (.int .i64 h2)) (fun k => k = b) := by
 refine ⟨((gr_set1 (gr_set0 h u0) u1).set 2 _).congr fun i hi => ?_, ((Grew.set _ _ _ _).trans (Grew.set _ _ _ _)).trans (Grew.set _ _ _ _)⟩
 unfold grF
 by_cases e : i = 2
 ·simp [e]
 ·rw [if_neg e]
  by_cases e0 : i = 0
  ·simp [e0]
  ·by_cases e1 : i = 1
   ·simp [e1]
   ·omega
end Go.Proofs.YthdffigckohpoaaGreat
