import Derived.Test.YtfcidgnjanidoaaZU12
import Derived.Test.YtfcidgnjanidoaaZU7
import Derived.Test.YtfcidgnjanidoaaZU2
import Derived.Test.YtfcidgnjanidoaaZHBase
/- Moves in plain words, and that the model says the same. -/
namespace Go.Proofs.Ytfcidgnjanidoaa
open Go.RowKit

noncomputable def mvL (h : Hp) : List Int := (obC h).map fun a => (plF h.words (rchL h) (rchL h).length ((a : Nat) : Int)).getD (-1)
/-- What Moves answers. -/
noncomputable def mvC (h : Hp) : List Int := if okC h = true ∧ szS h.words (rchL h) ≤ 2000 then mvL h else []
theorem mv_len (h : Hp) : (mvL h).length = (obC h).length := by simp [mvL]
theorem mv_at {h : Hp} {j : Nat} (hj : j < (obC h).length) : (mvL h).getD j 0 = (plF h.words (rchL h) (rchL h).length (((obC h).getD j 0 : Nat) : Int)).getD (-1) := by
  simp [mvL, List.getD_eq_getElem?_getD, hj]
theorem mv_short (h : Hp) : (mvC h).length ≤ 3200 := by
  unfold mvC
  split
  · rw [mv_len]; exact ob_short h
  · simp
theorem gt_char {h : Hp} {l : List Nat} (R : RightAt h l) (sn : List Bool) (p : Nat → Bool) (hp : ∀ a, sn.getD a false = p a) : ∀ k, k ≤ l.length → ((gtS h.words sn l k).2 : Int) = szS h.words ((l.take k).filter p) ∧ GT h.words l (gtS h.words sn l k) k ∧
    ∀ j, j < k → ((gtS h.words sn l k).1.getD (l.getD j 0) 0 : Int) = if p (l.getD j 0) = true then szS h.words ((l.take j).filter p) + 1 else 0
  | 0, _ => ⟨by simp [gtS, szS], gt_start _ _ _, fun j hj => absurd hj (Nat.not_lt_zero j)⟩
  | k + 1, hk => by
    obtain ⟨e, G, A⟩ := gt_char R sn p hp k (by omega)
    have so := ((right_iff R.1.1).1 R).1.sorted
    have hlt : k < l.length := hk
    have E : gtS h.words sn l (k + 1) = gt1 h.words sn (gtS h.words sn l k) (l.getD k 0) := rfl
    have G' := gt_step R sn G hlt
    rw [← E] at G'
    have hm : l.getD k 0 ∈ l := getD_mem hlt
    obtain ⟨o1, o2, o3⟩ := R.1.obj hm
    have sz := size_of o3
    have tk : l.take (k + 1) = l.take k ++ [l.getD k 0] := ltake_snoc l k hlt
    refine ⟨?_, G', fun j hj => ?_⟩
    · rw [E, tk, List.filter_append, szS_app]
      unfold gt1
      rw [hp]
      cases hs : p (l.getD k 0)
      · simp only [Bool.false_eq_true, if_false, List.filter_cons, hs, List.filter_nil, szS]
        omega
      · simp only [if_true, List.filter_cons, hs, List.filter_nil, szS]
        omega
    · rw [E]
      unfold gt1
      rw [hp]
      cases hs : p (l.getD k 0)
      · simp only [Bool.false_eq_true, if_false]
        by_cases e2 : j = k
        · subst e2
          rw [hs, if_neg (by simp), G.z _ (fun j' hj' => sorted_ne so hlt hj')]
          rfl
        · exact A j (by omega)
      · simp only [if_true]
        rw [getD_set_nat _ _ _ _ (by rw [G.len]; omega)]
        by_cases e2 : j = k
        · subst e2
          rw [if_pos rfl, if_pos hs]
          omega
        · rw [if_neg (fun q => sorted_ne so hlt (show j < k from by omega) q.symm)]
          exact A j (by omega)
theorem idx_part {A B : List Nat} {a : Nat} (h : a ∉ A) : (A ++ a :: B).take ((A ++ a :: B).idxOf a) = A := by
  have e : (A ++ a :: B).idxOf a = A.length := by
    rw [List.idxOf_append, if_neg h]
    simp
  rw [e]
  simp
/-- The model's moves are these. -/
theorem mv_spec {h : Hp} (k : okC h = true) {i : Nat} (e : i = (rcS h i).1.length) : ((gtS h.words (rcS h i).2 (obC h) (obC h).length).2 : Int) = szS h.words (rchL h) ∧
    ∀ j, j < (obC h).length → ((gtS h.words (rcS h i).2 (obC h) (obC h).length).1.getD ((obC h).getD j 0) 0 : Int) - 1 = (mvL h).getD j 0 := by
  have R := c_right k
  have so := ok_sorted k
  have P := gt_char R (rcS h i).2 (fun a => decide (a ∈ ordF h.words h.roots)) (fun a => by
    have := seen_iff R e a
    cases hs : (rcS h i).2.getD a false
    · rw [hs] at this
      have n : ¬ a ∈ ordF h.words h.roots := fun q => by have := this.2 q; cases this
      simp [n]
    · have y := this.1 hs
      simp [y]) (obC h).length (Nat.le_refl _)
  rw [List.take_length] at P
  refine ⟨P.1, fun j hj => ?_⟩
  rw [P.2.2 j hj, mv_at hj]
  have sp : obC h = (obC h).take j ++ (obC h).getD j 0 :: (obC h).drop (j + 1) := by
    have e1 := List.take_append_drop j (obC h)
    rw [List.drop_eq_getElem_cons hj] at e1
    have e2 : (obC h).getD j 0 = (obC h)[j] := by simp [List.getD_eq_getElem?_getD, hj]
    rw [e2]
    exact e1.symm
  have na : (obC h).getD j 0 ∉ (obC h).take j := fun q => by
    obtain ⟨m, hm, em⟩ := List.mem_iff_getElem.1 q
    rw [List.length_take] at hm
    have := sorted_ne so hj (show m < j from by omega)
    apply this
    rw [List.getElem_take] at em
    rw [← em]
    simp [List.getD_eq_getElem?_getD, show m < (obC h).length from by omega]
  by_cases hq : (obC h).getD j 0 ∈ ordF h.words h.roots
  · have hr : rchL h = ((obC h).take j).filter (fun a => decide (a ∈ ordF h.words h.roots)) ++ (obC h).getD j 0 :: ((obC h).drop (j + 1)).filter (fun a => decide (a ∈ ordF h.words h.roots)) := by
      unfold rchL
      conv => lhs; rw [sp]
      rw [List.filter_append, List.filter_cons, if_pos (decide_eq_true hq)]
    have ip := idx_part (A := ((obC h).take j).filter (fun a => decide (a ∈ ordF h.words h.roots))) (B := ((obC h).drop (j + 1)).filter (fun a => decide (a ∈ ordF h.words h.roots))) (fun q => na (List.mem_filter.1 q).1)
    rw [← hr] at ip
    rw [if_pos (decide_eq_true hq)]
    unfold plF
    rw [List.take_length, if_pos, Int.toNat_natCast, ip]
    · show _ + 1 - 1 = _
      simp
    · exact List.mem_map.2 ⟨_, by rw [hr]; simp, rfl⟩
  · rw [if_neg (by simpa using hq)]
    unfold plF
    rw [List.take_length, if_neg]
    · rfl
    · intro q
      obtain ⟨b, hb, eb⟩ := List.mem_map.1 q
      have : b = (obC h).getD j 0 := by omega
      subst this
      have := (List.mem_filter.1 hb).2
      exact hq (by simpa using this)

end Go.Proofs.Ytfcidgnjanidoaa

/- Compacting in plain words: objects copied down within the same words come to lie as the model lays them. -/
namespace Go.Proofs.Ytfcidgnjanidoaa
open Go.RowKit

/-- The words of an object, behind the moves. -/
def owd (W : List Int) (f : Int → Option Int) (a : Nat) : List Int := [gw W a, gw W (a + 1), gw W (a + 2), gw W (a + 3)] ++ (flds W a).map (rnM f)
theorem owd_len (W : List Int) (f : Int → Option Int) (a : Nat) : (owd W f a).length = 4 + (gw W a).toNat := by
  simp [owd, flds]
  omega
theorem owd_head (W : List Int) (f : Int → Option Int) (a k : Nat) (h : k < 4) : (owd W f a).getD k 0 = gw W (a + k) := by
  rcases (show k = 0 ∨ k = 1 ∨ k = 2 ∨ k = 3 from by omega) with rfl | rfl | rfl | rfl <;> simp [owd]
theorem owd_fld (W : List Int) (f : Int → Option Int) (a k : Nat) (h1 : 4 ≤ k) (h2 : k < 4 + (gw W a).toNat) : (owd W f a).getD k 0 = rnM f (gw W (a + k)) := by
  obtain ⟨j, rfl⟩ : ∃ j, k = 4 + j := ⟨k - 4, by omega⟩
  have e : (owd W f a).getD (4 + j) 0 = ((flds W a).map (rnM f)).getD j 0 := by
    unfold owd
    rw [gd_right (by simp)]
    simp
  rw [e]
  have hj : j < (gw W a).toNat := by omega
  simp [flds, List.getD_eq_getElem?_getD, hj, show a + (4 + j) = a + 4 + j from by omega]
def outW (W : List Int) (f : Int → Option Int) (l : List Nat) : List Int := l.flatMap (owd W f)
theorem outW_snoc (W : List Int) (f : Int → Option Int) (l : List Nat) (a : Nat) : outW W f (l ++ [a]) = outW W f l ++ owd W f a := by simp [outW]
theorem outW_app (W : List Int) (f : Int → Option Int) (l m : List Nat) : outW W f (l ++ m) = outW W f l ++ outW W f m := by simp [outW]
theorem outW_size {W : List Int} (f : Int → Option Int) : ∀ {l : List Nat}, (∀ a, a ∈ l → 0 ≤ gw W a) → ((outW W f l).length : Int) = szS W l
  | [], _ => by simp [outW, szS]
  | a :: l, h => by
    have ih := outW_size f (l := l) fun b hb => h b (by simp [hb])
    have h0 := h a (by simp)
    have e : outW W f (a :: l) = owd W f a ++ outW W f l := by simp [outW]
    rw [e, List.length_append, owd_len, szS]
    omega
theorem getD_past {l : List Int} {j : Nat} (h : l.length ≤ j) : l.getD j 0 = 0 := by simp [List.getD_eq_getElem?_getD, h]
theorem list_ext {l m : List Int} (hl : l.length = m.length) (h : ∀ j, l.getD j 0 = m.getD j 0) : l = m := by
  refine List.ext_getElem hl fun i h1 h2 => ?_
  have := h i
  simpa [List.getD_eq_getElem?_getD, h1, h2] using this

section
variable {h : Hp} (k : okC h = true)
include k
theorem rl_apart {i j : Nat} (hij : i < j) (hj : j < (rchL h).length) : nx h.words ((rchL h).getD i 0) ≤ (rchL h).getD j 0 := by
  have R := c_right k
  have mi : (rchL h).getD i 0 ∈ rchL h := lget_mem _ _ (by omega)
  have mj : (rchL h).getD j 0 ∈ rchL h := lget_mem _ _ hj
  have lt := List.pairwise_iff_getElem.1 (rch_sorted k) i j (by omega) hj hij
  refine R.1.apart (List.mem_filter.1 mi).1 (List.mem_filter.1 mj).1 ?_
  simpa [List.getD_eq_getElem?_getD, List.getElem?_eq_getElem hj, List.getElem?_eq_getElem (show i < (rchL h).length from by omega)] using lt
theorem rl_place (f : Int → Option Int) : ∀ i, i < (rchL h).length → (outW h.words f ((rchL h).take i)).length ≤ (rchL h).getD i 0
  | 0, _ => by simp [outW]
  | i + 1, hi => by
    have ih := rl_place f i (by omega)
    have ap := rl_apart k (i := i) (j := i + 1) (by omega) hi
    rw [ltake_snoc _ _ (show i < (rchL h).length from by omega), outW_snoc, List.length_append, owd_len]
    unfold nx at ap
    omega
end
/-- The words when i objects lie at their places. -/
structure DW (h : Hp) (f : Int → Option Int) (i : Nat) (V : List Int) : Prop where
  len : V.length = 3200
  pre : ∀ j, j < (outW h.words f ((rchL h).take i)).length → V.getD j 0 = (outW h.words f ((rchL h).take i)).getD j 0
  rest : ∀ j, (∀ q, q < i → nx h.words ((rchL h).getD q 0) ≤ j) → V.getD j 0 = h.words.getD j 0
theorem dw_start {h : Hp} (k : okC h = true) (f : Int → Option Int) : DW h f 0 h.words := ⟨(c_right k).1.1, fun j hj => by simp [outW] at hj, fun _ _ => rfl⟩
/-- What is read of the object whose turn it is. -/
theorem dw_obj {h : Hp} (k : okC h = true) {f : Int → Option Int} {i : Nat} {V : List Int} (d : DW h f i V) (hi : i < (rchL h).length) : ∀ j, (rchL h).getD i 0 ≤ j → V.getD j 0 = h.words.getD j 0 := fun j hj =>
  d.rest j (fun _ hq => Nat.le_trans (rl_apart k hq hi) hj)
theorem dw_flds {h : Hp} (k : okC h = true) {f : Int → Option Int} {i : Nat} {V : List Int} (d : DW h f i V) (hi : i < (rchL h).length) : flds V ((rchL h).getD i 0) = flds h.words ((rchL h).getD i 0) := by
  have e0 : gw V ((rchL h).getD i 0) = gw h.words ((rchL h).getD i 0) := dw_obj k d hi _ (Nat.le_refl _)
  unfold flds
  rw [e0]
  exact List.map_congr_left fun j _ => dw_obj k d hi _ (by omega)
/-- The fields renamed in place: the object's words. -/
theorem dw_win {h : Hp} (k : okC h = true) {f : Int → Option Int} {i : Nat} {V : List Int} (d : DW h f i V) (hi : i < (rchL h).length) : ∀ q, q < 4 + (gw h.words ((rchL h).getD i 0)).toNat →
    (splice V ((rchL h).getD i 0 + 4) ((flds h.words ((rchL h).getD i 0)).map (rnM f))).getD ((rchL h).getD i 0 + q) 0 = (owd h.words f ((rchL h).getD i 0)).getD q 0 := fun q hq => by
  have ob := (rch_obs k).2 _ (lget_mem _ _ hi)
  have R := c_right k
  have nx_ := (R.1.obj (List.mem_filter.1 (lget_mem (rchL h) i hi)).1).2.1
  have fl : ((flds h.words ((rchL h).getD i 0)).map (rnM f)).length = (gw h.words ((rchL h).getD i 0)).toNat := by simp [flds]
  have O := dw_obj k d hi
  unfold nx at nx_
  generalize (rchL h).getD i 0 = a at *
  rw [splice_get _ _ _ _ (by rw [fl, d.len]; omega), fl]
  by_cases h4 : q < 4
  · rw [if_pos (by omega), owd_head _ _ _ _ h4]
    exact O _ (by omega)
  · rw [if_neg (by omega), if_pos (by omega), owd_fld _ _ _ _ (by omega) hq]
    have hj : a + q - (a + 4) < (gw h.words a).toNat := by omega
    simp [flds, List.getD_eq_getElem?_getD, hj, show a + 4 + (a + q - (a + 4)) = a + q from by omega]
theorem dw_step {h : Hp} (k : okC h = true) {f : Int → Option Int} {i : Nat} {V : List Int} (d : DW h f i V) (hi : i < (rchL h).length) :
    DW h f (i + 1) (splice (splice V ((rchL h).getD i 0 + 4) ((flds h.words ((rchL h).getD i 0)).map (rnM f))) (outW h.words f ((rchL h).take i)).length (owd h.words f ((rchL h).getD i 0))) := by
  have R := c_right k
  have nx_ := (R.1.obj (List.mem_filter.1 (lget_mem (rchL h) i hi)).1).2.1
  have pl := rl_place k f i hi
  have fl : ((flds h.words ((rchL h).getD i 0)).map (rnM f)).length = (gw h.words ((rchL h).getD i 0)).toNat := by simp [flds]
  have ol := owd_len h.words f ((rchL h).getD i 0)
  have e := ltake_snoc (rchL h) i hi
  have L := d.len
  unfold nx at nx_
  have l1 : (splice V ((rchL h).getD i 0 + 4) ((flds h.words ((rchL h).getD i 0)).map (rnM f))).length = 3200 := by
    unfold splice
    simp only [List.length_append, List.length_take, List.length_drop, fl, L]
    omega
  have S := fun j => splice_get V ((flds h.words ((rchL h).getD i 0)).map (rnM f)) ((rchL h).getD i 0 + 4) j (by rw [fl, L]; omega)
  rw [fl] at S
  generalize splice V ((rchL h).getD i 0 + 4) ((flds h.words ((rchL h).getD i 0)).map (rnM f)) = V1 at *
  have S2 := fun j => splice_get V1 (owd h.words f ((rchL h).getD i 0)) (outW h.words f ((rchL h).take i)).length j (by rw [ol, l1]; omega)
  rw [ol] at S2
  refine ⟨?_, fun j hj => ?_, fun j hj => ?_⟩
  · unfold splice
    simp only [List.length_append, List.length_take, List.length_drop, ol, l1]
    omega
  · rw [e, outW_snoc] at hj ⊢
    rw [List.length_append, ol] at hj
    rw [S2]
    by_cases h1 : j < (outW h.words f ((rchL h).take i)).length
    · rw [if_pos h1, gd_left h1, S, if_pos (by omega)]
      exact d.pre j h1
    · rw [if_neg h1, if_pos (by omega), gd_right (by omega)]
  · have hn := hj i (by omega)
    unfold nx at hn
    rw [S2, if_neg (by omega), if_neg (by omega), S, if_neg (by omega), if_neg (by omega)]
    exact d.rest j (fun q hq => hj q (by omega))
/-- All lie there, and what is behind them is cleared. -/
theorem dw_end {h : Hp} {f : Int → Option Int} {V : List Int} (d : DW h f (rchL h).length V) (hE : (outW h.words f (rchL h)).length ≤ 3200) :
    V.take (outW h.words f (rchL h)).length ++ List.replicate (3200 - (outW h.words f (rchL h)).length) 0 = outW h.words f (rchL h) ++ List.replicate (3200 - (outW h.words f (rchL h)).length) 0 := by
  have p := d.pre
  rw [List.take_length] at p
  have L := d.len
  congr 1
  refine list_ext (by rw [List.length_take]; omega) fun j => ?_
  by_cases hj : j < (outW h.words f (rchL h)).length
  · rw [← p j hj]
    simp [List.getD_eq_getElem?_getD, hj]
  · rw [getD_past (l := V.take _) (by rw [List.length_take]; omega), getD_past (by omega)]

/-! The model's words -/
theorem cf_get (W : List Int) (went : List Nat) (V : List Int) (a to : Nat) : ∀ k, to + k ≤ V.length → ∀ j, (cf W went V a to k).getD j 0 = if to ≤ j ∧ j < to + k then (if 4 ≤ j - to then cw went (gw W (a + (j - to))) else gw W (a + (j - to))) else V.getD j 0
  | 0, _, j => by rw [if_neg (by omega)]; rfl
  | k + 1, h, j => by
    have ih := cf_get W went V a to k (by omega) j
    have L := cf_len W went V a to k
    rw [cf]
    have g : ((cf W went V a to k).set (to + k) (if 4 ≤ k then cw went (gw W (a + k)) else gw W (a + k))).getD j 0 = if j = to + k then (if 4 ≤ k then cw went (gw W (a + k)) else gw W (a + k)) else (cf W went V a to k).getD j 0 := gw_set (cf W went V a to k) (to + k) j _ (by omega)
    rw [g, ih]
    by_cases e : j = to + k
    · subst e
      rw [if_pos rfl, if_pos (c := to ≤ to + k ∧ to + k < to + (k + 1)) (by omega), show to + k - to = k from by omega]
    · rw [if_neg e]
      by_cases q : to ≤ j ∧ j < to + k
      · rw [if_pos q, if_pos (c := to ≤ j ∧ j < to + (k + 1)) (by omega)]
      · rw [if_neg q, if_neg (c := to ≤ j ∧ j < to + (k + 1)) (by omega)]
/-- A word of a reached object means the same to both. -/
theorem cw_rn {h : Hp} (k : okC h = true) {i : Nat} (e : i = (rcS h i).1.length) {x : Int} (hf : fitB (obC h) x = true) (hr : isK 2 x = true → (x / 2).toNat ∈ ordF h.words h.roots) :
    cw (gtS h.words (rcS h i).2 (obC h) (obC h).length).1 x = rnM (plF h.words (rchL h) (rchL h).length) x := by
  unfold cw rnM
  by_cases hx : x % 2 = 0
  · have nk : ¬ isK 2 x = true := fun q => isK_odd q hx
    rw [if_pos hx, if_neg nk]
  · have ik := odd_isK hf hx
    rw [if_neg hx, if_pos ik]
    have hm := hr ik
    obtain ⟨a, ha, e2, -, -⟩ := odd_obj hf hx
    rw [e2, Int.toNat_natCast] at hm ⊢
    obtain ⟨j, hj, ej⟩ := List.mem_iff_getElem.1 ha
    have ej' : (obC h).getD j 0 = a := by rw [← ej]; simp [List.getD_eq_getElem?_getD, hj]
    have M := (mv_spec k e).2 j hj
    rw [ej', mv_at hj, ej'] at M
    have pm : plF h.words (rchL h) (rchL h).length (a : Int) = some (szS h.words ((rchL h).take ((rchL h).idxOf a))) := by
      unfold plF
      rw [List.take_length, if_pos, Int.toNat_natCast]
      exact List.mem_map.2 ⟨a, List.mem_filter.2 ⟨ha, decide_eq_true hm⟩, rfl⟩
    rw [pm] at M ⊢
    simp only [Option.getD_some] at M ⊢
    omega
/-- The model lays the same words. -/
theorem cfS_get {h : Hp} (k : okC h = true) {i : Nat} (e : i = (rcS h i).1.length) (hE : (outW h.words (plF h.words (rchL h) (rchL h).length) (rchL h)).length ≤ 3200) :
    ∀ n, n ≤ (obC h).length → ∀ j, (cfS h.words (gtS h.words (rcS h i).2 (obC h) (obC h).length).1 (obC h) n).getD j 0 = (outW h.words (plF h.words (rchL h) (rchL h).length) (((obC h).take n).filter fun a => decide (a ∈ ordF h.words h.roots))).getD j 0
  | 0, _, j => by
    rw [cfS]
    simp only [outW, List.take_zero, List.filter_nil, List.flatMap_nil, List.getD_eq_getElem?_getD, List.getElem?_replicate, List.getElem?_nil]
    split <;> rfl
  | n + 1, hn, j => by
    have ih := cfS_get k e hE n (by omega)
    have R := c_right k
    have hlt : n < (obC h).length := hn
    have M := (gt_char R (rcS h i).2 (fun a => decide (a ∈ ordF h.words h.roots)) (fun a => by
      have := seen_iff R e a
      cases hs : (rcS h i).2.getD a false
      · rw [hs] at this
        have nn : ¬ a ∈ ordF h.words h.roots := fun q => by have := this.2 q; cases this
        simp [nn]
      · have y := this.1 hs
        simp [y]) (obC h).length (Nat.le_refl _)).2.2 n hlt
    have tk : (obC h).take (n + 1) = (obC h).take n ++ [(obC h).getD n 0] := ltake_snoc _ _ hlt
    have mem : (obC h).getD n 0 ∈ obC h := getD_mem hlt
    obtain ⟨o1, o2, o3⟩ := R.1.obj mem
    have sz := size_of o3
    have ff := right_fields R mem
    have oc : (obC h).getD n 0 ∈ ordF h.words h.roots → ∀ x, x ∈ flds h.words ((obC h).getD n 0) → isK 2 x = true → (x / 2).toNat ∈ ordF h.words h.roots := fun q x hx kx => ord_fields R q hx kx
    rw [tk, List.filter_append]
    rw [cfS]
    by_cases hs : (obC h).getD n 0 ∈ ordF h.words h.roots
    · rw [if_pos (decide_eq_true hs)] at M
      have nn : ∀ a, a ∈ ((obC h).take n).filter (fun a => decide (a ∈ ordF h.words h.roots)) → 0 ≤ gw h.words a := fun a ha => (size_of (R.1.obj (List.mem_of_mem_take (List.mem_filter.1 ha).1)).2.2).1
      have os := outW_size (plF h.words (rchL h) (rchL h).length) nn
      have wz : ¬ (gtS h.words (rcS h i).2 (obC h) (obC h).length).1.getD ((obC h).getD n 0) 0 = 0 := by omega
      have fs : List.filter (fun a => decide (a ∈ ordF h.words h.roots)) [(obC h).getD n 0] = [(obC h).getD n 0] := by rw [List.filter_cons, if_pos (decide_eq_true hs)]; rfl
      rw [if_neg wz, fs, outW_snoc]
      have bound : (outW h.words (plF h.words (rchL h) (rchL h).length) (((obC h).take n).filter fun a => decide (a ∈ ordF h.words h.roots))).length + (4 + (gw h.words ((obC h).getD n 0)).toNat) ≤ 3200 := by
        have e1 : (obC h).take (n + 1) ++ (obC h).drop (n + 1) = obC h := List.take_append_drop _ _
        have e2 : rchL h = (((obC h).take n).filter (fun a => decide (a ∈ ordF h.words h.roots)) ++ [(obC h).getD n 0]) ++ ((obC h).drop (n + 1)).filter (fun a => decide (a ∈ ordF h.words h.roots)) := by
          unfold rchL
          conv => lhs; rw [← e1]
          rw [List.filter_append, tk, List.filter_append, fs]
        have e3 := congrArg (fun z => (outW h.words (plF h.words (rchL h) (rchL h).length) z).length) e2
        simp only [outW_app, List.length_append] at e3
        have e4 : (outW h.words (plF h.words (rchL h) (rchL h).length) [(obC h).getD n 0]).length = 4 + (gw h.words ((obC h).getD n 0)).toNat := by
          rw [← owd_len h.words (plF h.words (rchL h) (rchL h).length)]
          simp [outW]
        omega
      generalize (gtS h.words (rcS h i).2 (obC h) (obC h).length).1.getD ((obC h).getD n 0) 0 = to at *
      have cwr : ∀ q, 4 ≤ q → q < 4 + (gw h.words ((obC h).getD n 0)).toNat → cw (gtS h.words (rcS h i).2 (obC h) (obC h).length).1 (gw h.words ((obC h).getD n 0 + q)) = rnM (plF h.words (rchL h) (rchL h).length) (gw h.words ((obC h).getD n 0 + q)) := fun q q1 q2 => by
        have mx : gw h.words ((obC h).getD n 0 + q) ∈ flds h.words ((obC h).getD n 0) := by
          unfold flds
          exact List.mem_map.2 ⟨q - 4, by rw [List.mem_range]; omega, by rw [show (obC h).getD n 0 + 4 + (q - 4) = (obC h).getD n 0 + q from by omega]⟩
        exact cw_rn k e (ff _ mx) (fun kx => oc hs _ mx kx)
      have ol := owd_len h.words (plF h.words (rchL h) (rchL h).length) ((obC h).getD n 0)
      have OH := owd_head h.words (plF h.words (rchL h) (rchL h).length) ((obC h).getD n 0)
      have OF := owd_fld h.words (plF h.words (rchL h) (rchL h).length) ((obC h).getD n 0)
      have ihj := ih j
      rw [cf_get _ _ _ _ _ _ (by rw [cfS_len]; omega), ihj]
      generalize outW h.words (plF h.words (rchL h) (rchL h).length) (((obC h).take n).filter fun a => decide (a ∈ ordF h.words h.roots)) = A at *
      generalize owd h.words (plF h.words (rchL h) (rchL h).length) ((obC h).getD n 0) = B at *
      by_cases hw : to - 1 ≤ j ∧ j < to - 1 + (4 + (gw h.words ((obC h).getD n 0)).toNat)
      · rw [if_pos hw, gd_right (by omega), show j - A.length = j - (to - 1) from by omega]
        by_cases h4 : 4 ≤ j - (to - 1)
        · rw [if_pos h4, cwr _ h4 (by omega), OF _ h4 (by omega)]
        · rw [if_neg h4, OH _ (by omega)]
      · rw [if_neg hw]
        by_cases h1 : j < A.length
        · rw [gd_left h1]
        · rw [getD_past (by omega), getD_past (by rw [List.length_append]; omega)]
    · have fs : List.filter (fun a => decide (a ∈ ordF h.words h.roots)) [(obC h).getD n 0] = [] := by rw [List.filter_cons, if_neg (by simpa using hs)]; rfl
      rw [if_neg (by simpa using hs)] at M
      rw [if_pos (by omega), fs, List.append_nil]
      exact ih j

/-- The compacted heap, as both make it. -/
theorem co_words {h : Hp} (k : okC h = true) {i : Nat} (e : i = (rcS h i).1.length) (hE : (outW h.words (plF h.words (rchL h) (rchL h).length) (rchL h)).length ≤ 3200) :
    cfS h.words (gtS h.words (rcS h i).2 (obC h) (obC h).length).1 (obC h) (obC h).length = outW h.words (plF h.words (rchL h) (rchL h).length) (rchL h) ++ List.replicate (3200 - (outW h.words (plF h.words (rchL h) (rchL h).length) (rchL h)).length) 0 := by
  refine list_ext (by rw [cfS_len, List.length_append, List.length_replicate]; omega) fun j => ?_
  rw [cfS_get k e hE _ (Nat.le_refl _), List.take_length]
  show (outW h.words _ (rchL h)).getD j 0 = _
  by_cases hj : j < (outW h.words (plF h.words (rchL h) (rchL h).length) (rchL h)).length
  · rw [gd_left hj]
  · rw [gd_right (by omega), getD_past (by omega)]
    simp only [List.getD_eq_getElem?_getD, List.getElem?_replicate]
    split <;> rfl
theorem co_roots {h : Hp} (k : okC h = true) {i : Nat} (e : i = (rcS h i).1.length) : h.roots.map (cw (gtS h.words (rcS h i).2 (obC h) (obC h).length).1) = h.roots.map (rnM (plF h.words (rchL h) (rchL h).length)) :=
  List.map_congr_left fun x hx => cw_rn k e (right_roots (c_right k) x hx) (fun kx => ord_roots hx kx)

end Go.Proofs.Ytfcidgnjanidoaa

/- One of two operations of a region comes up. -/
namespace Go.Proofs.Ytfcidgnjanidoaa
open Go.RowKit

section
variable {P : Program} {md : Region.Mode} {ops : Array Oper} {Q : Exit → Act → World → Prop} {R : Act → World → Prop} {S : World → Prop} {z : Nat}
/-- One of two operations comes up. -/
theorem z_or {i j fuel : Nat} {listed : Array Bool} {a : Act} {w : World} (hr : Region.ready md ops listed = [i, j])
    (h1 : wpOp P ops Q i (fun a' w' => (i = z ∨ S w') ∧ Disk.wpAnyZ P md ops Q z S fuel (listed.setIfInBounds i true) a' w') a w)
    (h2 : wpOp P ops Q j (fun a' w' => (j = z ∨ S w') ∧ Disk.wpAnyZ P md ops Q z S fuel (listed.setIfInBounds j true) a' w') a w) : Disk.wpAnyZ P md ops Q z S (fuel + 1) listed a w := by
  refine ⟨fun h0 => (by rw [hr] at h0; cases h0), fun k hk => ?_⟩
  rw [hr] at hk
  simp at hk
  rcases hk with rfl | rfl
  · exact h1
  · exact h2
theorem o_run (i d : Nat) {oi : Oper} {v : Value} {fuel : Nat} {listed : Array Bool} {T : Array Value} {D : List Deferred} {w w' : World} (hi : ops[i]? = some oi) (hd : oi.dst = some d)
    (hw : Region.wanted oi (yielded ops T) = true) (hy : (execOp (Act.eval ⟨T, D⟩) oi).run P w = .ok (.value v) w') (hS : i = z ∨ S w')
    (h : Disk.wpAnyZ P md ops (Disk.Ends R) z S fuel (listed.setIfInBounds i true) ⟨T.setIfInBounds d v, D⟩ w') : wpOp P ops (Disk.Ends R) i (fun a' w' => (i = z ∨ S w') ∧ Disk.wpAnyZ P md ops (Disk.Ends R) z S fuel (listed.setIfInBounds i true) a' w') ⟨T, D⟩ w := by
  refine Disk.wpOp_of hi hw ?_
  unfold Oper.wp
  rw [hy]
  refine ⟨hS, ?_⟩
  rw [hd]
  exact h
theorem o_call (i d : Nat) {oi : Oper} {f : FuncId} {args : Array Value} {fuel : Nat} {listed : Array Bool} {T : Array Value} {D : List Deferred} {w w0 : World} (hi : ops[i]? = some oi) (hd : oi.dst = some d)
    (hw : Region.wanted oi (yielded ops T) = true) (hy : (execOp (Act.eval ⟨T, D⟩) oi).run P w = .ok (.enter f args) w0)
    (h : Calls P f args w0 fun e w' => ∃ v, e = .returned v ∧ (i = z ∨ S w') ∧ Disk.wpAnyZ P md ops (Disk.Ends R) z S fuel (listed.setIfInBounds i true) ⟨T.setIfInBounds d v, D⟩ w') : wpOp P ops (Disk.Ends R) i (fun a' w' => (i = z ∨ S w') ∧ Disk.wpAnyZ P md ops (Disk.Ends R) z S fuel (listed.setIfInBounds i true) a' w') ⟨T, D⟩ w := by
  refine Disk.wpOp_of hi hw ?_
  unfold Oper.wp
  rw [hy]
  refine h.mono ?_
  rintro e w' ⟨v, rfl, hS, h⟩
  refine ⟨hS, ?_⟩
  rw [hd]
  exact h
end

end Go.Proofs.Ytfcidgnjanidoaa

/- A region of a function, taken out of it. -/
namespace Go.Proofs.Ytfcidgnjanidoaa
open Go.RowKit

/-- The region of this number. -/
def regOf (n : Nat) : Code → Option Code
  | .region i ops d => if i = n then some (.region i ops d) else none
  | .seq a b => match regOf n a with
    | some c => some c
    | none => regOf n b
  | .block _ c => regOf n c
  | .scope c => regOf n c
  | .loop c => regOf n c
  | .cond _ a b => match regOf n a with
    | some c => some c
    | none => regOf n b
  | _ => none

end Go.Proofs.Ytfcidgnjanidoaa
