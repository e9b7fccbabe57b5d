import Derived.Test.YtfcidgnjanidoaaZU8
/- The scavenger in plain words: the heap at its end. -/
namespace Go.Proofs.Ytfcidgnjanidoaa
open Go.RowKit

/-- Words in which a stretch is nought. -/
def zr (W : List Int) (lo hi : Nat) : List Int := (List.range W.length).map fun j => if lo ≤ j ∧ j < hi then 0 else gw W j
theorem zr_len (W : List Int) (lo hi : Nat) : (zr W lo hi).length = W.length := by simp [zr]
theorem zr_gw (W : List Int) (lo hi j : Nat) : gw (zr W lo hi) j = if lo ≤ j ∧ j < hi then 0 else gw W j := by
  by_cases h : j < W.length
  · unfold zr
    show ((List.range W.length).map _).getD j 0 = _
    simp [List.getD_eq_getElem?_getD, h]
  · have e : gw W j = 0 := by
      unfold gw
      simp [List.getD_eq_getElem?_getD, show W[j]? = none from List.getElem?_eq_none (by omega)]
    have e2 : gw (zr W lo hi) j = 0 := by
      unfold gw
      simp [List.getD_eq_getElem?_getD, show (zr W lo hi)[j]? = none from List.getElem?_eq_none (by rw [zr_len]; omega)]
    rw [e, e2]
    split <;> rfl
theorem zr_start (W : List Int) (lo : Nat) : zr W lo lo = W := by
  refine ilists_eq (zr_len _ _ _) fun j _ => ?_
  have q := zr_gw W lo lo j
  rw [if_neg (by omega)] at q
  exact q
theorem zr_set (W : List Int) (lo i : Nat) (h : lo ≤ i) (hi : i < W.length) : (zr W lo i).set i 0 = zr W lo (i + 1) := by
  refine ilists_eq (by rw [List.length_set, zr_len, zr_len]) fun j _ => ?_
  show gw ((zr W lo i).set i 0) j = gw (zr W lo (i + 1)) j
  rw [gw_set _ _ _ _ (by rw [zr_len]; exact hi), zr_gw, zr_gw]
  by_cases e : j = i
  · rw [if_pos e, if_pos (by omega)]
  · rw [if_neg e]
    by_cases k : lo ≤ j ∧ j < i
    · rw [if_pos k, if_pos (by omega)]
    · rw [if_neg k, if_neg (by omega)]
def finW (h : Hp) (W : List Int) : List Int := zr (zr W 2000 2600) (survB h.flip) (survB h.flip + 300)
theorem finW_gw (h : Hp) (W : List Int) (j : Nat) : (frm h j → gw (finW h W) j = 0) ∧ (¬ frm h j → gw (finW h W) j = gw W j) := by
  unfold finW frm
  rw [zr_gw, zr_gw]
  constructor
  · intro k
    split
    · rfl
    · rw [if_pos (by omega)]
  · intro k
    rw [if_neg (by omega), if_neg (by omega)]
def finH (h : Hp) (s : SV) (rl : List Int) (kp : List Int) : Hp := { words := finW h s.W, roots := rl, old := s.old, eden := 2000, surv := s.to, flip := !h.flip, hash := h.hash, kept := kp }
/-- The objects at the end. -/
theorem fin_parts {h : Hp} {l : List Nat} {s : SV} (S : SI h l s) (rl kp : List Int) : ∃ m, PartsAt (finH h s rl kp) m := by
  obtain ⟨m0, g0, q1, q2⟩ := S.g0
  obtain ⟨m2, g2, q3⟩ := S.g2
  have t3 := tb_two h
  have oo := S.old1
  have t0 := S.to0
  have t1 := S.to1
  have nf : ∀ j, ¬ frm h j → gw (finW h s.W) j = gw s.W j := fun j => (finW_gw h s.W j).2
  have G0 := goes_same (V := finW h s.W) g0 (fun a ha k hk => nf _ (fun q => by have := frm_not q; have := goes_in g0 ha; omega))
  have G2 := goes_same (V := finW h s.W) g2 (fun a ha k hk => nf _ (fun q => by have := (frm_not q).2; have := goes_in g2 ha; omega))
  have e : survB (!h.flip) = tb h := rfl
  refine ⟨_, by show (finW h s.W).length = 3200; unfold finW; rw [zr_len, zr_len]; exact S.len, ⟨by show (0 : Int) ≤ (s.old : Int); omega, by show (s.old : Int) ≤ 2000; omega⟩, ⟨Int.le_refl _, by show (2000 : Int) ≤ 2600; omega⟩, ⟨by show ((survB (!h.flip) : Nat) : Int) ≤ (s.to : Int); rw [e]; omega, by show (s.to : Int) ≤ ((survB (!h.flip) : Nat) : Int) + 300; rw [e]; omega⟩, m0, 0, m2, ?_, ⟨rfl, fun i hi => absurd hi (Nat.not_lt_zero i)⟩, ?_, rfl⟩
  · show Goes (finW h s.W) 0 ((s.old : Int)).toNat m0
    rw [Int.toNat_natCast]
    exact G0.1
  · show Goes (finW h s.W) (survB (!h.flip)) ((s.to : Int)).toNat m2
    rw [Int.toNat_natCast]
    exact G2.1
theorem fin_small {h : Hp} {l : List Nat} {s : SV} (S : SI h l s) (j : Nat) : smallI (gw (finW h s.W) j) := by
  unfold finW
  rw [zr_gw, zr_gw]
  split
  · unfold smallI; omega
  split
  · unfold smallI; omega
  · exact S.sm j
theorem small_half {x : Int} (h : smallI x) : -4611686018427387904 ≤ x.tdiv 2 ∧ x.tdiv 2 ≤ 4611686018427387904 := by
  obtain ⟨h1, h2⟩ := h
  rcases Int.le_total 0 x with k | k
  · rw [Int.tdiv_eq_ediv_of_nonneg k]
    omega
  · have e : x.tdiv 2 = -((-x) / 2) := by
      rw [show x = -(-x) from by omega, Int.neg_tdiv, Int.tdiv_eq_ediv_of_nonneg (by omega), Int.neg_neg]
    omega

end Go.Proofs.Ytfcidgnjanidoaa

/- The compacting collector in plain words: what is reached, where it goes, what is written. -/
namespace Go.Proofs.Ytfcidgnjanidoaa
open Go.RowKit

/-- An odd word that fits is the address of an object. -/
theorem odd_obj {l : List Nat} {x : Int} (hf : fitB l x = true) (ho : ¬ x % 2 = 0) : ∃ a : Nat, a ∈ l ∧ x / 2 = a ∧ x.tdiv 2 = a ∧ x = 2 * (a : Int) + 1 := by
  have k := fit_kind hf
  have k2 : kindW x = 2 := by
    rw [kind_odd ho] at k ⊢
    split at k
    · rename_i q; rw [if_pos q]
    · exact absurd rfl k
  rw [fit_ref (decide_eq_true k2), List.contains_iff_mem] at hf
  obtain ⟨a, ha, e⟩ := List.mem_map.1 hf
  refine ⟨a, ha, e.symm, ?_, by omega⟩
  rw [Int.tdiv_eq_ediv_of_nonneg (by omega)]
  exact e.symm

/-- One more of what is to do is looked at. -/
def rc1 (W : List Int) (s : List Int × List Bool) (i : Nat) : List Int × List Bool :=
  if s.1.getD i 0 % 2 = 0 then s else if s.2.getD (s.1.getD i 0 / 2).toNat false = true then s
  else (s.1 ++ flds W (s.1.getD i 0 / 2).toNat, s.2.set (s.1.getD i 0 / 2).toNat true)
def seen0 : List Bool := List.replicate 3200 false
theorem seen0_len : seen0.length = 3200 := List.length_replicate
/-- What is to do and what was seen, behind i of them. -/
def rcS (h : Hp) : Nat → List Int × List Bool
  | 0 => (h.roots, seen0)
  | i + 1 => if i < (rcS h i).1.length then rc1 h.words (rcS h i) i else rcS h i
structure RC (h : Hp) (l : List Nat) (s : List Int × List Bool) : Prop where
  fit : ∀ x, x ∈ s.1 → fitB l x = true
  len : s.2.length = 3200
  cnt : s.1.length ≤ h.roots.length + 60 * s.2.count true
theorem count_set : ∀ (s : List Bool) (a : Nat), a < s.length → s.getD a false = false → (s.set a true).count true = s.count true + 1
  | [], a, h, _ => absurd h (Nat.not_lt_zero a)
  | b :: s, 0, _, e => by
    have e' : b = false := e
    subst e'
    rw [List.set_cons_zero, List.count_cons, List.count_cons]
    simp
  | b :: s, a + 1, h, e => by
    have q := count_set s a (by simpa using h) (by simpa using e)
    rw [List.set_cons_succ, List.count_cons, List.count_cons, q]
    omega
theorem RC.short {h : Hp} {l : List Nat} {s : List Int × List Bool} (R : RightAt h l) (k : RC h l s) : s.1.length ≤ 192020 := by
  have a := R.2.2.2.2.2.1
  have b : s.2.count true ≤ s.2.length := List.count_le_length
  have c := k.cnt
  have d := k.len
  omega
theorem rc_start {h : Hp} {l : List Nat} (R : RightAt h l) : RC h l (rcS h 0) :=
  ⟨R.2.2.2.2.2.2.1, seen0_len, by show h.roots.length ≤ _; omega⟩
theorem flds_len (W : List Int) (a : Nat) : (flds W a).length = (gw W a).toNat := by simp [flds]
theorem rc_step {h : Hp} {l : List Nat} (R : RightAt h l) {s : List Int × List Bool} (k : RC h l s) {i : Nat} (hi : i < s.1.length) : RC h l (rc1 h.words s i) := by
  unfold rc1
  split
  · exact k
  split
  · exact k
  · rename_i h1 h2
    have hx : s.1.getD i 0 ∈ s.1 := by simp [hi]
    obtain ⟨a, ha, e, _, _⟩ := odd_obj (k.fit _ hx) h1
    rw [e, Int.toNat_natCast] at h2 ⊢
    obtain ⟨o1, o2, o3⟩ := R.1.obj ha
    have sz := size_of o3
    refine ⟨fun x hx => ?_, by show (s.2.set a true).length = 3200; rw [List.length_set]; exact k.len, ?_⟩
    · have hx' : x ∈ s.1 ++ flds h.words a := hx
      rw [List.mem_append] at hx'
      rcases hx' with q | q
      · exact k.fit x q
      · exact fld_mem.2 (R.2.2.2.2.2.2.2.1 a ha) x q
    · show (s.1 ++ flds h.words a).length ≤ h.roots.length + 60 * (s.2.set a true).count true
      rw [count_set _ _ (by rw [k.len]; omega) (by simpa using h2), List.length_append, flds_len]
      have := k.cnt
      omega

/-- Where each object goes (and 1), and where the last one ends, behind i of the objects. -/
def gt1 (W : List Int) (sn : List Bool) (s : List Nat × Nat) (a : Nat) : List Nat × Nat :=
  if sn.getD a false = true then (s.1.set a (s.2 + 1), s.2 + 4 + (gw W a).toNat) else s
def gtS (W : List Int) (sn : List Bool) (l : List Nat) : Nat → List Nat × Nat
  | 0 => (went0, 0)
  | i + 1 => gt1 W sn (gtS W sn l i) (l.getD i 0)
structure GT (W : List Int) (l : List Nat) (s : List Nat × Nat) (i : Nat) : Prop where
  len : s.1.length = 3200
  top : s.2 ≤ 64 * i
  le : ∀ a, s.1.getD a 0 ≤ s.2 + 1
  at_ : ∀ j, j < i → s.1.getD (l.getD j 0) 0 = 0 ∨ s.1.getD (l.getD j 0) 0 + 3 + (gw W (l.getD j 0)).toNat ≤ s.2
  z : ∀ a, (∀ j, j < i → l.getD j 0 ≠ a) → s.1.getD a 0 = 0
theorem getD_set_nat (s : List Nat) (a b x : Nat) (h : a < s.length) : (s.set a x).getD b 0 = if a = b then x else s.getD b 0 := by
  simp only [List.getD_eq_getElem?_getD, List.getElem?_set]
  by_cases e : a = b
  · subst e
    rw [if_pos rfl, if_pos h, if_pos rfl]
    rfl
  · rw [if_neg e, if_neg e]
theorem sorted_ne {l : List Nat} (so : l.Pairwise (· < ·)) {i j : Nat} (hi : i < l.length) (hj : j < i) : l.getD j 0 ≠ l.getD i 0 := by
  have P := List.pairwise_iff_getElem.1 so j i (by omega) hi hj
  simp only [List.getD_eq_getElem?_getD, List.getElem?_eq_getElem hi, List.getElem?_eq_getElem (show j < l.length from by omega), Option.getD_some]
  omega
theorem gt_start (W : List Int) (sn : List Bool) (l : List Nat) : GT W l (gtS W sn l 0) 0 :=
  ⟨went0_len, Nat.le_refl _, fun a => by show went0.getD a 0 ≤ _; rw [went0_get]; omega, fun j hj => absurd hj (Nat.not_lt_zero j), fun a _ => went0_get a⟩
theorem gt_step {h : Hp} {l : List Nat} (R : RightAt h l) (sn : List Bool) {s : List Nat × Nat} {i : Nat} (k : GT h.words l s i) (hi : i < l.length) : GT h.words l (gt1 h.words sn s (l.getD i 0)) (i + 1) := by
  have so := ((right_iff R.1.1).1 R).1.sorted
  have ha : l.getD i 0 ∈ l := getD_mem hi
  obtain ⟨o1, o2, o3⟩ := R.1.obj ha
  have sz := size_of o3
  have top := k.top
  unfold gt1
  split
  · have S : ∀ b, (s.1.set (l.getD i 0) (s.2 + 1)).getD b 0 = if l.getD i 0 = b then s.2 + 1 else s.1.getD b 0 := fun b => getD_set_nat _ _ _ _ (by rw [k.len]; omega)
    refine ⟨by show (s.1.set _ _).length = 3200; rw [List.length_set]; exact k.len, by show s.2 + 4 + _ ≤ _; omega, fun a => ?_, fun j hj => ?_, fun a q => ?_⟩
    · show (s.1.set _ _).getD a 0 ≤ s.2 + 4 + _ + 1
      rw [S]
      have := k.le a
      split <;> omega
    · show (s.1.set _ _).getD (l.getD j 0) 0 = 0 ∨ (s.1.set _ _).getD (l.getD j 0) 0 + 3 + _ ≤ s.2 + 4 + _
      rw [S]
      by_cases e : j = i
      · subst e
        rw [if_pos rfl]
        right
        omega
      · rw [if_neg (fun e2 => sorted_ne so hi (show j < i from by omega) e2.symm)]
        rcases k.at_ j (by omega) with q | q
        · exact .inl q
        · right; omega
    · show (s.1.set _ _).getD a 0 = 0
      rw [S, if_neg (q i (by omega))]
      exact k.z a fun j hj => q j (by omega)
  · refine ⟨k.len, by omega, k.le, fun j hj => ?_, fun a q => k.z a fun j hj => q j (by omega)⟩
    by_cases e : j = i
    · subst e
      exact .inl (k.z _ fun j' hj' => sorted_ne so hi hj')
    · exact k.at_ j (by omega)

/-- A word of a reached object, behind the moves. -/
def cw (went : List Nat) (x : Int) : Int := if x % 2 = 0 then x else 2 * (((went.getD (x / 2).toNat 0 : Nat) : Int) - 1) + 1
/-- The words of one object: behind k of them. -/
def cf (W : List Int) (went : List Nat) (V : List Int) (a to : Nat) : Nat → List Int
  | 0 => V
  | k + 1 => (cf W went V a to k).set (to + k) (if 4 ≤ k then cw went (gw W (a + k)) else gw W (a + k))
/-- The words behind i objects. -/
def cfS (W : List Int) (went : List Nat) (l : List Nat) : Nat → List Int
  | 0 => List.replicate 3200 0
  | i + 1 => if went.getD (l.getD i 0) 0 = 0 then cfS W went l i else cf W went (cfS W went l i) (l.getD i 0) (went.getD (l.getD i 0) 0 - 1) (4 + (gw W (l.getD i 0)).toNat)
theorem cf_len (W : List Int) (went : List Nat) (V : List Int) (a to : Nat) : ∀ k, (cf W went V a to k).length = V.length
  | 0 => rfl
  | k + 1 => by rw [cf, List.length_set]; exact cf_len W went V a to k
theorem cfS_len (W : List Int) (went : List Nat) (l : List Nat) : ∀ i, (cfS W went l i).length = 3200
  | 0 => List.length_replicate
  | i + 1 => by
    rw [cfS]
    split
    · exact cfS_len W went l i
    · rw [cf_len]; exact cfS_len W went l i
/-- The compacted heap. -/
def coH (h : Hp) (l went : List Nat) (e : Nat) : Hp := { words := cfS h.words went l l.length, roots := h.roots.map (cw went), old := e, eden := 2000, surv := 2600, flip := false, hash := h.hash, kept := [] }

end Go.Proofs.Ytfcidgnjanidoaa
