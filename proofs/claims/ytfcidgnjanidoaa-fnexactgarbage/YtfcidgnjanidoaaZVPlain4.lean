/- The scavenger in plain words: the heap at its end. -/
import Derived.Test.YtfcidgnjanidoaaZVPlain3
namespace Go.Proofs.Ytfcidgnjanidoaa
open Go.RowKit

/-- Words in which a stretch is nought. -/
def zr (W : List Int) (lo hi : Nat) : List Int := (List.range W.length).map fun j => if lo ≤ j ∧ j < hi then 0 else gw W j
theorem zr_len (W : List Int) (lo hi : Nat) : (zr W lo hi).length = W.length := by simp [zr]
theorem zr_gw (W : List Int) (lo hi j : Nat) : gw (zr W lo hi) j = if lo ≤ j ∧ j < hi then 0 else gw W j := by
  by_cases h : j < W.length
  · unfold zr
    show ((List.range W.length).map _).getD j 0 = _
    simp [List.getD_eq_getElem?_getD, h]
  · have e : gw W j = 0 := by
      unfold gw
      simp [List.getD_eq_getElem?_getD, show W[j]? = none from List.getElem?_eq_none (by omega)]
    have e2 : gw (zr W lo hi) j = 0 := by
      unfold gw
      simp [List.getD_eq_getElem?_getD, show (zr W lo hi)[j]? = none from List.getElem?_eq_none (by rw [zr_len]; omega)]
    rw [e, e2]
    split <;> rfl
theorem zr_start (W : List Int) (lo : Nat) : zr W lo lo = W := by
  refine ilists_eq (zr_len _ _ _) fun j _ => ?_
  have q := zr_gw W lo lo j
  rw [if_neg (by omega)] at q
  exact q
theorem zr_set (W : List Int) (lo i : Nat) (h : lo ≤ i) (hi : i < W.length) : (zr W lo i).set i 0 = zr W lo (i + 1) := by
  refine ilists_eq (by rw [List.length_set, zr_len, zr_len]) fun j _ => ?_
  show gw ((zr W lo i).set i 0) j = gw (zr W lo (i + 1)) j
  rw [gw_set _ _ _ _ (by rw [zr_len]; exact hi), zr_gw, zr_gw]
  by_cases e : j = i
  · rw [if_pos e, if_pos (by omega)]
  · rw [if_neg e]
    by_cases k : lo ≤ j ∧ j < i
    · rw [if_pos k, if_pos (by omega)]
    · rw [if_neg k, if_neg (by omega)]
def finW (h : Hp) (W : List Int) : List Int := zr (zr W 2000 2600) (survB h.flip) (survB h.flip + 300)
theorem finW_gw (h : Hp) (W : List Int) (j : Nat) : (frm h j → gw (finW h W) j = 0) ∧ (¬ frm h j → gw (finW h W) j = gw W j) := by
  unfold finW frm
  rw [zr_gw, zr_gw]
  constructor
  · intro k
    split
    · rfl
    · rw [if_pos (by omega)]
  · intro k
    rw [if_neg (by omega), if_neg (by omega)]
def finH (h : Hp) (s : SV) (rl : List Int) (kp : List Int) : Hp := { words := finW h s.W, roots := rl, old := s.old, eden := 2000, surv := s.to, flip := !h.flip, hash := h.hash, kept := kp }
/-- The objects at the end. -/
theorem fin_parts {h : Hp} {l : List Nat} {s : SV} (S : SI h l s) (rl kp : List Int) : ∃ m, PartsAt (finH h s rl kp) m := by
  obtain ⟨m0, g0, q1, q2⟩ := S.g0
  obtain ⟨m2, g2, q3⟩ := S.g2
  have t3 := tb_two h
  have oo := S.old1
  have t0 := S.to0
  have t1 := S.to1
  have nf : ∀ j, ¬ frm h j → gw (finW h s.W) j = gw s.W j := fun j => (finW_gw h s.W j).2
  have G0 := goes_same (V := finW h s.W) g0 (fun a ha k hk => nf _ (fun q => by have := frm_not q; have := goes_in g0 ha; omega))
  have G2 := goes_same (V := finW h s.W) g2 (fun a ha k hk => nf _ (fun q => by have := (frm_not q).2; have := goes_in g2 ha; omega))
  have e : survB (!h.flip) = tb h := rfl
  refine ⟨_, by show (finW h s.W).length = 3200; unfold finW; rw [zr_len, zr_len]; exact S.len, ⟨by show (0 : Int) ≤ (s.old : Int); omega, by show (s.old : Int) ≤ 2000; omega⟩, ⟨Int.le_refl _, by show (2000 : Int) ≤ 2600; omega⟩, ⟨by show ((survB (!h.flip) : Nat) : Int) ≤ (s.to : Int); rw [e]; omega, by show (s.to : Int) ≤ ((survB (!h.flip) : Nat) : Int) + 300; rw [e]; omega⟩, m0, 0, m2, ?_, ⟨rfl, fun i hi => absurd hi (Nat.not_lt_zero i)⟩, ?_, rfl⟩
  · show Goes (finW h s.W) 0 ((s.old : Int)).toNat m0
    rw [Int.toNat_natCast]
    exact G0.1
  · show Goes (finW h s.W) (survB (!h.flip)) ((s.to : Int)).toNat m2
    rw [Int.toNat_natCast]
    exact G2.1
theorem fin_small {h : Hp} {l : List Nat} {s : SV} (S : SI h l s) (j : Nat) : smallI (gw (finW h s.W) j) := by
  unfold finW
  rw [zr_gw, zr_gw]
  split
  · unfold smallI; omega
  split
  · unfold smallI; omega
  · exact S.sm j
theorem small_half {x : Int} (h : smallI x) : -4611686018427387904 ≤ x.tdiv 2 ∧ x.tdiv 2 ≤ 4611686018427387904 := by
  obtain ⟨h1, h2⟩ := h
  rcases Int.le_total 0 x with k | k
  · rw [Int.tdiv_eq_ediv_of_nonneg k]
    omega
  · have e : x.tdiv 2 = -((-x) / 2) := by
      rw [show x = -(-x) from by omega, Int.neg_tdiv, Int.tdiv_eq_ediv_of_nonneg (by omega), Int.neg_neg]
    omega

end Go.Proofs.Ytfcidgnjanidoaa
