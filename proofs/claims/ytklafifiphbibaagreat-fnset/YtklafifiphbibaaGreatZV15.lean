
import Derived.Test.YtklafifiphbibaaGreatZV14
import Derived.Test.YtklafifiphbibaaGreatZV5
/- Heaps held against each other in a law. -/
namespace Go.Proofs.YtklafifiphbibaaGreat
open Go.RowKit

set_option maxRecDepth 100000 in
set_option maxHeartbeats 1600000 in
theorem likeHeap_any (v u : Value) (h : Hp) (w : World) (hv : HR w v h) (hu : HR w u h) (l1 : h.words.length ≤ 10000000000000) (l2 : h.roots.length ≤ 10000000000000) (l3 : h.kept.length ≤ 10000000000000) :
    Calls Tryz.prog 9 #[v, u] w fun e w' => e = .returned (.bool true) ∧ Below w.heap.size w w' := by
  obtain ⟨v1, v2, v3, rfl, a1, a2, a3⟩ := hv
  obtain ⟨u1, u2, u3, rfl, b1, b2, b3⟩ := hu
  have hb0 : Below w.heap.size w ((w.alloc (.cells #[v1, v2, .int .i64 h.old, .int .i64 h.eden, .int .i64 h.surv, .bool h.flip, .int .i64 h.hash, v3] 26)).alloc (.cells #[u1, u2, .int .i64 h.old, .int .i64 h.eden, .int .i64 h.surv, .bool h.flip, .int .i64 h.hash, u3] 26)) := bel_after (bel_one _ _) (bel_one _ _)
  have X0 := (Bx.new w v1 v2 v3 h 26).later (bel_one _ (.cells #[u1, u2, .int .i64 h.old, .int .i64 h.eden, .int .i64 h.surv, .bool h.flip, .int .i64 h.hash, u3] 26))
  have Y0 : Bx ((w.alloc (.cells #[v1, v2, .int .i64 h.old, .int .i64 h.eden, .int .i64 h.surv, .bool h.flip, .int .i64 h.hash, v3] 26)).alloc (.cells #[u1, u2, .int .i64 h.old, .int .i64 h.eden, .int .i64 h.surv, .bool h.flip, .int .i64 h.hash, u3] 26)) (w.heap.size + 1) u1 u2 u3 h := by
    have q := Bx.new (w.alloc (.cells #[v1, v2, .int .i64 h.old, .int .i64 h.eden, .int .i64 h.surv, .bool h.flip, .int .i64 h.hash, v3] 26)) u1 u2 u3 h 26
    rwa [World.size_alloc] at q
  have E1 := likeInts_any v1 u1 h.words _ (a1.later hb0) (b1.later hb0) (by omega)
  go_enter Tryz.func9, Tryz.ntmps9
  go_wp2_with fail
  refine E1.mono ?_
  rintro e w1 ⟨rfl, hb1⟩
  have hbw1 := bel_after hb0 hb1
  have X1 := X0.later hb1
  have Y1 := Y0.later hb1
  obtain ⟨x0, x1, x2, x3, x4, x5, x6, x7⟩ := id X1
  obtain ⟨y0, y1, y2, y3, y4, y5, y6, y7⟩ := id Y1
  have E2 := likeInts_any v2 u2 h.roots _ (a2.later hbw1) (b2.later hbw1) (by omega)
  clear E1 X0 Y0
  go_wp2_with fail
  refine E2.mono ?_
  rintro e w2 ⟨rfl, hb2⟩
  have hbw2 := bel_after hbw1 hb2
  have X2 := X1.later hb2
  have Y2 := Y1.later hb2
  clear x0 x1 x2 x3 x4 x5 x6 x7 y0 y1 y2 y3 y4 y5 y6 y7
  obtain ⟨x0, x1, x2, x3, x4, x5, x6, x7⟩ := id X2
  obtain ⟨y0, y1, y2, y3, y4, y5, y6, y7⟩ := id Y2
  have E3 := likeInts_any v3 u3 h.kept _ (a3.later hbw2) (b3.later hbw2) (by omega)
  clear E2 X1 Y1
  go_wp2_with fail
  refine E3.mono ?_
  rintro e w3 ⟨rfl, hb3⟩
  go_wp2
  go_ret
  exact ⟨rfl, bel_after hbw2 hb3⟩

/-- The shape of a heap that is owned. -/
theorem HN.sh {B : Nat} {w : World} {v : Value} {h : Hp} (k : HN B w v h) : ∃ a1 c1 a2 c2 a3 c3, v = .agg #[.slice a1 h.words.length c1, .slice a2 h.roots.length c2, .int .i64 h.old, .int .i64 h.eden, .int .i64 h.surv, .bool h.flip, .int .i64 h.hash, .slice a3 h.kept.length c3] ∧
    IR w (.slice a1 h.words.length c1) h.words ∧ IR w (.slice a2 h.roots.length c2) h.roots ∧ IR w (.slice a3 h.kept.length c3) h.kept := by
  obtain ⟨v1, v2, v3, e, os, ir, rest⟩ := k.ex
  obtain ⟨a1, c1, rfl, _⟩ := IRs ir.1
  obtain ⟨a2, c2, rfl, _⟩ := IRs ir.2.1
  obtain ⟨a3, c3, rfl, _⟩ := IRs ir.2.2
  exact ⟨a1, c1, a2, c2, a3, c3, e, ir⟩
/-- The cell of a list that is read. -/
theorem IR.at {w : World} {a : Option Addr} {n c : Nat} {l : List Int} (h : IR w (.slice a n c) l) {k : Nat} (hk : k < l.length) : ∃ b o, a = some ⟨b, o, none⟩ ∧ w.cell? ⟨b, o + k, none⟩ = some (.int .i64 (l.getD k 0)) := by
  obtain ⟨ao, cap, e, _, hc⟩ := h
  simp only [Value.slice.injEq] at e
  obtain ⟨rfl, rfl, rfl⟩ := e
  exact hc k hk

end Go.Proofs.YtklafifiphbibaaGreat

/- Theory of FnRooted and FnSet: a heap with another root is right; what is set is got, set back it is the heap of before. -/
namespace Go.Proofs.YtklafifiphbibaaGreat
open Go.RowKit

theorem fit_in {l : List Nat} {x : Int} (k : fitB l x = true) : In64 x := by
  unfold fitB at k
  simp only [Bool.or_eq_true, Bool.and_eq_true, decide_eq_true_eq] at k
  have : kindW x ≠ 0 := by rcases k with k | k <;> omega
  unfold kindW at this
  unfold In64
  split at this
  · split at this
    · rename_i h1 h2
      unfold adrB at h2
      simp only [decide_eq_true_eq] at h2
      omega
    · omega
  · split at this
    · rename_i h1 h2
      unfold numB at h2
      simp only [decide_eq_true_eq] at h2
      omega
    · omega

/-- All that FnSet asks of a field that was set. -/
theorem put_all {h : Hp} {x i y : Int} (q : putB h x i y = true) : ∃ p : Nat, p < 3200 ∧ h.words.length = 3200 ∧ (putC h x i y).words = h.words.set p y ∧ (putC h x i y).words.length = 3200 ∧ okC h = true ∧ okC (putC h x i y) = true ∧
    fldB h x i = true ∧ getC h x i = gw h.words p ∧ fldB (putC h x i y) x i = true ∧ getC (putC h x i y) x i = y ∧ putB (putC h x i y) x i (gw h.words p) = true ∧ putC (putC h x i y) x i (gw h.words p) = h ∧
    (∀ k c, k < 4 → clsC (putC h x i y) x k c = clsC h x k c) ∧ In64 (gw h.words p) := by
  have e := put_yes q
  unfold putB at q
  simp only [Bool.and_eq_true, decide_eq_true_eq] at q
  obtain ⟨k, f, r, i0, i1⟩ := q
  have R := c_right k
  obtain ⟨kx, a, ha, ea⟩ := ref_mem r
  have e2 : (x / 2).toNat = a := by omega
  rw [e2] at i1 e
  obtain ⟨j, rfl⟩ := Int.eq_ofNat_of_zero_le i0
  have e3 : ((j : Int)).toNat = j := by omega
  rw [e3] at e
  have L := R.1.1
  have pl := put_lt R ha i1
  have PR := put_right R ha i1 y f
  obtain ⟨ks, os⟩ := c_yes PR
  have es : putC h x j y = { h with words := h.words.set (a + 4 + j) y, kept := keptOf (h.words.set (a + 4 + j) y) (obC h) } := e
  have hw : (putC h x j y).words = h.words.set (a + 4 + j) y := by rw [es]
  have ho : obC (putC h x j y) = obC h := by rw [es]; exact os
  have hk : okC (putC h x j y) = true := by rw [es]; exact ks
  have rs : refB (putC h x j y) x = true := ref_of kx (by rw [ho]; exact ha) ea
  have hd := fun m (hm : m < 4) => put_head R ha i1 y ha hm
  have ga : gw (putC h x j y).words a = gw h.words a := by rw [hw]; exact hd 0 (by omega)
  have fo : fitB (obC h) (gw h.words (a + 4 + j)) = true := R.2.2.2.2.2.2.2.1 a ha _ (by omega) pl.1
  have F1 : fldB h x j = true := by unfold fldB; rw [k, r, e2]; simp [i1]
  have F2 : fldB (putC h x j y) x j = true := by unfold fldB; rw [hk, rs, e2, ga]; simp [i1]
  have P2 : putB (putC h x j y) x j (gw h.words (a + 4 + j)) = true := by unfold putB; rw [hk, rs, e2, ga, ho, fo]; simp [i1]
  refine ⟨a + 4 + j, pl.2, L, hw, by rw [hw, List.length_set]; exact L, k, hk, F1, ?_, F2, ?_, P2, ?_, ?_, fit_in fo⟩
  · unfold getC; rw [if_pos F1, e2, e3]
  · unfold getC
    rw [if_pos F2, e2, e3, hw, gw_set _ _ _ _ (by omega), if_pos rfl]
  · rw [put_yes P2, e2, e3]
    have back : (h.words.set (a + 4 + j) y).set (a + 4 + j) (gw h.words (a + 4 + j)) = h.words := by
      rw [List.set_set]
      unfold gw
      rw [List.getD_eq_getElem?_getD, List.getElem?_eq_getElem (by omega), Option.getD_some, List.set_getElem_self]
    unfold putH
    rw [ho, hw, back, R.2.2.2.2.2.2.2.2, es]
  · intro m c hm
    unfold clsC
    rw [k, hk, r, rs, e2, hw, hd m hm]
/-- How many words are others so far. -/
theorem count_put {W : List Int} {p k : Nat} {y : Int} (hp : p < W.length) : (gw W k != gw (W.set p y) k) = (decide (k = p) && (gw W p != y)) := by
  rw [gw_set _ _ _ _ hp]
  by_cases e : k = p
  · subst e; simp
  · rw [if_neg e]; simp [e]

end Go.Proofs.YtklafifiphbibaaGreat
