/- l6Shape of the model: the graph of a right heap. -/
import Derived.Test.YtboiknllmnfipaaDoorZU5
namespace Go.Proofs.YtboiknllmnfipaaDoor
open Go.RowKit

theorem fit_two {l : List Nat} {x : Int} (h : fitB l x = true) : x % 2 = 0 ∨ isK 2 x = true := by
  by_cases e : isK 2 x = true
  · exact .inr e
  · refine .inl ?_
    unfold fitB at h
    unfold isK at e
    simp only [Bool.or_eq_true, decide_eq_true_eq, Bool.and_eq_true] at h e
    have k1 : kindW x = 1 := by
      rcases h with q | q
      · exact q
      · exact absurd q.1 e
    unfold kindW at k1
    split at k1
    · split at k1 <;> omega
    · omega
theorem gmakeW (w : World) : (Instr.makeSlice 24 (.int .i64 3200) (.int .i64 3200)).run Tryd.prog w = .ok (.slice (some ⟨w.heap.size, 0, none⟩) 3200 3200) (w.alloc (.cells (madeCells #[.int .i64 0] 3200) 2)) := make28 3200 (by omega) w
/-- What the loop on the roots needs of each. -/
theorem root_step {h : Hp} {l : List Nat} (r : RightAt h l) {k : Nat} (hk : k < h.roots.length) :
    (h.roots.getD k 0 % 2 = 0 ∨ isK 2 (h.roots.getD k 0) = true) ∧ (fol [] (h.roots.take k)).length ≤ 3200 ∧ fol1 (fol [] (h.roots.take k)) (h.roots.getD k 0) = fol [] (h.roots.take (k + 1)) ∧
    ren (fol1 (fol [] (h.roots.take k)) (h.roots.getD k 0)) (h.roots.getD k 0) = ren (ordF h.words h.roots) (h.roots.getD k 0) := by
  have hm : h.roots.getD k 0 ∈ h.roots := by simp [hk]
  have hp : ∀ j, fol [] (h.roots.take j) <+: ordF h.words h.roots := fun j => (fol_take_pre [] h.roots j).trans (tr_ord (W := h.words) (R := h.roots) (k := 0) (by omega))
  refine ⟨fit_two (right_roots r _ hm), Nat.le_trans (hp k).length_le (ord_len r), (fol_snoc [] h.roots k hk).symm, ?_⟩
  rw [← fol_snoc [] h.roots k hk]
  refine ren_pre (hp (k + 1)) fun q => ?_
  rw [fol_snoc [] h.roots k hk]
  exact fol1_has q
theorem field_step {h : Hp} {l : List Nat} (r : RightAt h l) {k j : Nat} (hk : k < (tr h.words h.roots k).length) (hk3 : k < 3200) (hj : j < (flds h.words ((tr h.words h.roots k).getD k 0)).length) :
    let a := (tr h.words h.roots k).getD k 0
    ((flds h.words a).getD j 0 % 2 = 0 ∨ isK 2 ((flds h.words a).getD j 0) = true) ∧ (fol (tr h.words h.roots k) ((flds h.words a).take j)).length ≤ 3200 ∧
    fol1 (fol (tr h.words h.roots k) ((flds h.words a).take j)) ((flds h.words a).getD j 0) = fol (tr h.words h.roots k) ((flds h.words a).take (j + 1)) ∧
    ren (fol1 (fol (tr h.words h.roots k) ((flds h.words a).take j)) ((flds h.words a).getD j 0)) ((flds h.words a).getD j 0) = ren (ordF h.words h.roots) ((flds h.words a).getD j 0) := by
  intro a
  have ha : a ∈ l := tr_sub r k (by simp [a, hk])
  have hm : (flds h.words a).getD j 0 ∈ flds h.words a := by
    rw [gd_in hj]
    exact List.getElem_mem hj
  have hp : ∀ j, fol (tr h.words h.roots k) ((flds h.words a).take j) <+: ordF h.words h.roots := fun j => by
    have h1 := fol_take_pre (tr h.words h.roots k) (flds h.words a) j
    rw [← tr_next _ _ _ hk] at h1
    exact h1.trans (tr_ord (k := k + 1) (by omega))
  refine ⟨fit_two (right_fields r ha _ hm), Nat.le_trans (hp j).length_le (ord_len r), (fol_snoc _ _ j hj).symm, ?_⟩
  rw [← fol_snoc _ _ j hj]
  refine ren_pre (hp (j + 1)) fun q => ?_
  rw [fol_snoc _ _ j hj]
  exact fol1_has q

theorem gr_store {w : World} {b t : Nat} {rv nv u0 u1 : Value} {hh h2 : Int} (h : w.rowIs b t 3 (grF rv nv hh)) :
    (((w.setCell ⟨b, 0, none⟩ u0).setCell ⟨b, 1, none⟩ u1).setCell ⟨b, 2, none⟩ (.int .i64 h2)).rowIs b t 3 (grF u0 u1 h2) ∧ Grew w (((w.setCell ⟨b, 0, none⟩ u0).setCell ⟨b, 1, none⟩ u1).setCell ⟨b, 2, none⟩ (.int .i64 h2)) (fun k => k = b) := by
  refine ⟨((gr_set1 (gr_set0 h u0) u1).set 2 _).congr fun i hi => ?_, ((Grew.set _ _ _ _).trans (Grew.set _ _ _ _)).trans (Grew.set _ _ _ _)⟩
  unfold grF
  by_cases e : i = 2
  · simp [e]
  · rw [if_neg e]
    by_cases e0 : i = 0
    · simp [e0]
    · by_cases e1 : i = 1
      · simp [e1]
      · omega
theorem flds_get {W : List Int} {a m j : Nat} (hm : gw W a = (m : Int)) (hj : j < m) : (flds W a).getD j 0 = gw W (a + 4 + j) := by
  unfold flds
  rw [hm, Int.toNat_natCast]
  simp [hj]
/-- What the loop on the fields needs of each. -/
theorem field_need {h : Hp} {l : List Nat} (r : RightAt h l) {k m j : Nat} (hk : k < (tr h.words h.roots k).length) (hk3 : k < 3200) (hm : gw h.words ((tr h.words h.roots k).getD k 0) = (m : Int)) (hj : j < m) :
    (gw h.words ((tr h.words h.roots k).getD k 0 + 4 + j) % 2 = 0 ∨ isK 2 (gw h.words ((tr h.words h.roots k).getD k 0 + 4 + j)) = true) ∧ (fol (tr h.words h.roots k) ((flds h.words ((tr h.words h.roots k).getD k 0)).take j)).length ≤ 3200 ∧
    fol1 (fol (tr h.words h.roots k) ((flds h.words ((tr h.words h.roots k).getD k 0)).take j)) (gw h.words ((tr h.words h.roots k).getD k 0 + 4 + j)) = fol (tr h.words h.roots k) ((flds h.words ((tr h.words h.roots k).getD k 0)).take (j + 1)) ∧
    ren (fol1 (fol (tr h.words h.roots k) ((flds h.words ((tr h.words h.roots k).getD k 0)).take j)) (gw h.words ((tr h.words h.roots k).getD k 0 + 4 + j))) (gw h.words ((tr h.words h.roots k).getD k 0 + 4 + j)) = ren (ordF h.words h.roots) (gw h.words ((tr h.words h.roots k).getD k 0 + 4 + j)) ∧
    ((flds h.words ((tr h.words h.roots k).getD k 0)).take (j + 1)).map (ren (ordF h.words h.roots)) = ((flds h.words ((tr h.words h.roots k).getD k 0)).take j).map (ren (ordF h.words h.roots)) ++ [ren (ordF h.words h.roots) (gw h.words ((tr h.words h.roots k).getD k 0 + 4 + j))] := by
  have hl : j < (flds h.words ((tr h.words h.roots k).getD k 0)).length := by rw [flds_length, hm]; exact hj
  have q := field_step r hk hk3 hl
  simp only at q
  rw [flds_get hm hj] at q
  refine ⟨q.1, q.2.1, q.2.2.1, q.2.2.2, ?_⟩
  rw [itake_snoc _ _ hl, flds_get hm hj]
  simp
theorem Sh2.node {N : Nat} {W0 wr : World} {hh : Int} {o : List Nat} {rl : List Int} {ns : List Nd} {ov rv nv : Value} {K : Nat → Prop} (s : Sh2 N W0 wr hh o rl ns ov rv nv K) (c z : Int) :
    Sh3 N W0 (wr.alloc (.cells #[.int .i64 c, .int .i64 z, .slice none 0 0] 37)).drew hh o rl ns ov rv nv K wr.heap.size c z [] (.slice none 0 0) := by
  refine ⟨s.new (S := fun _ => False) (Grew.new (bel_one _ _) _).drew (fun b q => q.elim), s.sz, ⟨fun q => ?_, fun q => ?_, fun q => ?_, by simp [Value.ownBlock]⟩, ?_, World.ownsRow_nil _ _ _ _, fun b e => by simp [Value.ownBlock] at e⟩
  · have := (s.kk _ q).2.1; omega
  · have := (s.ord.lt _ q).2; omega
  · have := (s.ndb _ q).2.1; omega
  · exact World.rowIs_alloc wr #[.int .i64 c, .int .i64 z, .slice none 0 0] _ _ (fun i hi => by
      match i, hi with
      | 0, _ => rfl
      | 1, _ => rfl
      | 2, _ => rfl)

end Go.Proofs.YtboiknllmnfipaaDoor
