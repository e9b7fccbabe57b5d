/- Objects become others, in plain words: every field and every root is changed by a function. -/
import Derived.Test.YtaldfkfjmgkjbaaZFPlain
namespace Go.Proofs.Ytaldfkfjmgkjbaa
open Go.RowKit

/-- The words, changed by f at the places P. -/
def cW (f : Int → Int) (W : List Int) (P : Nat → Bool) : List Int := (List.range W.length).map fun j => if P j = true then f (gw W j) else gw W j
theorem cW_length (f : Int → Int) (W : List Int) (P : Nat → Bool) : (cW f W P).length = W.length := by simp [cW]
theorem cW_gw (f : Int → Int) (W : List Int) (P : Nat → Bool) {j : Nat} (h : j < W.length) : gw (cW f W P) j = if P j = true then f (gw W j) else gw W j := by
  show (cW f W P).getD j 0 = _
  unfold cW
  simp [List.getD_eq_getElem?_getD, h]
theorem gw_ext {V W : List Int} (hl : V.length = W.length) (h : ∀ j, j < V.length → gw V j = gw W j) : V = W := ilists_eq hl h
theorem cW_congr {f : Int → Int} {W : List Int} {P Q : Nat → Bool} (h : ∀ j, j < W.length → P j = Q j) : cW f W P = cW f W Q := by
  refine gw_ext (by simp [cW_length]) fun j hj => ?_
  rw [cW_length] at hj
  rw [cW_gw _ _ _ hj, cW_gw _ _ _ hj, h j hj]
theorem cW_id {f : Int → Int} {W : List Int} {P : Nat → Bool} (h : ∀ j, j < W.length → P j = true → f (gw W j) = gw W j) : cW f W P = W := by
  refine gw_ext (by simp [cW_length]) fun j hj => ?_
  rw [cW_length] at hj
  rw [cW_gw _ _ _ hj]
  split
  · exact h j hj ‹_›
  · rfl
theorem cW_keep {f : Int → Int} {W : List Int} {P : Nat → Bool} {j : Nat} (hy : f (gw W j) = gw W j) : cW f W P = cW f W (fun i => P i || decide (i = j)) := by
  refine gw_ext (by simp [cW_length]) fun i hi => ?_
  rw [cW_length] at hi
  rw [cW_gw _ _ _ hi, cW_gw _ _ _ hi]
  by_cases e : i = j
  · subst e
    simp only [decide_true, Bool.or_true, hy, ite_self]
  · rw [decide_eq_false e, Bool.or_false]
theorem cW_set {f : Int → Int} {W : List Int} {P : Nat → Bool} {j : Nat} (hj : j < W.length) {y : Int} (hy : y = f (gw W j)) : (cW f W P).set j y = cW f W (fun i => P i || decide (i = j)) := by
  refine gw_ext (by simp [cW_length]) fun i hi => ?_
  rw [List.length_set, cW_length] at hi
  rw [gw_set _ _ _ _ (by rw [cW_length]; exact hj), cW_gw _ _ _ hi, cW_gw _ _ _ hi]
  by_cases e : i = j
  · subst e
    rw [if_pos rfl, decide_eq_true rfl, Bool.or_true, if_pos rfl, hy]
  · rw [if_neg e, decide_eq_false e, Bool.or_false]
theorem cW_cW {f : Int → Int} {W : List Int} {P Q : Nat → Bool} (h : ∀ j, j < W.length → P j = true → Q j = false) : cW f (cW f W P) Q = cW f W (fun j => P j || Q j) := by
  refine gw_ext (by simp [cW_length]) fun i hi => ?_
  rw [cW_length, cW_length] at hi
  rw [cW_gw _ _ _ (by rw [cW_length]; exact hi), cW_gw _ _ _ hi, cW_gw _ _ _ hi]
  cases hP : P i
  · simp
  · rw [h i hi hP]
    simp
def rngB (q n j : Nat) : Bool := decide (q ≤ j ∧ j < q + n)
theorem cW_all (f : Int → Int) (W : List Int) : cW f W (rngB 0 W.length) = W.map f := by
  refine gw_ext (by simp [cW_length]) fun i hi => ?_
  rw [cW_length] at hi
  rw [cW_gw _ _ _ hi, rngB, decide_eq_true ⟨Nat.zero_le _, by omega⟩, if_pos rfl]
  simp [gw, List.getD_eq_getElem?_getD, hi]
theorem cW_zero (f : Int → Int) (W : List Int) (q : Nat) : cW f W (rngB q 0) = W := cW_id fun j _ h => by
  have := of_decide_eq_true h
  omega
theorem rng_succ (q n j : Nat) : (rngB q n j || decide (j = q + n)) = rngB q (n + 1) j := by
  unfold rngB
  rw [← Bool.decide_or]
  refine decide_eq_decide.2 ?_
  omega

/-- Is this the place of a field of these objects? -/
def fldI (W : List Int) (l : List Nat) (j : Nat) : Bool := l.any fun a => decide (a + 4 ≤ j ∧ j < nx W a)
theorem fldI_iff {W : List Int} {l : List Nat} {j : Nat} : fldI W l j = true ↔ ∃ a, a ∈ l ∧ a + 4 ≤ j ∧ j < nx W a := by
  unfold fldI
  rw [List.any_eq_true]
  exact ⟨fun ⟨a, ha, k⟩ => ⟨a, ha, of_decide_eq_true k⟩, fun ⟨a, ha, k⟩ => ⟨a, ha, decide_eq_true k⟩⟩
theorem fldI_no {W : List Int} {l : List Nat} {j : Nat} (h : ∀ a, a ∈ l → a + 4 ≤ j → j < nx W a → False) : fldI W l j = false := by
  rw [Bool.eq_false_iff]
  intro k
  obtain ⟨a, ha, h1, h2⟩ := fldI_iff.1 k
  exact h a ha h1 h2
theorem fldI_snoc (W : List Int) (l : List Nat) (k : Nat) (h : k < l.length) (j : Nat) : fldI W (l.take (k + 1)) j = (fldI W (l.take k) j || rngB (l.getD k 0 + 4) (gw W (l.getD k 0)).toNat j) := by
  have e : l.take (k + 1) = l.take k ++ [l.getD k 0] := by
    rw [List.take_add_one, List.getElem?_eq_getElem h]
    simp [h]
  unfold fldI
  rw [e, List.any_append, List.any_cons, List.any_nil, Bool.or_false]
  rfl
section
variable {h : Hp} {l : List Nat} (R : PartsAt h l)
include R
theorem fld_head {m : List Nat} (hm : ∀ b, b ∈ m → b ∈ l) {a k : Nat} (ha : a ∈ l) (hk : k < 4) : fldI h.words m (a + k) = false := by
  refine fldI_no fun b hb h1 h2 => ?_
  rcases Nat.lt_trichotomy a b with q | q | q
  · omega
  · omega
  · have := R.apart (hm b hb) ha q
    omega
theorem fld_apart {m : List Nat} (hm : ∀ b, b ∈ m → b ∈ l) {a j : Nat} (ha : a ∈ l) (hn : a ∉ m) (h1 : a + 4 ≤ j) (h2 : j < nx h.words a) : fldI h.words m j = false := by
  refine fldI_no fun b hb g1 g2 => ?_
  rcases Nat.lt_trichotomy a b with q | q | q
  · have := R.apart ha (hm b hb) q
    omega
  · subst q
    exact hn hb
  · have := R.apart (hm b hb) ha q
    omega
theorem cw_head (f : Int → Int) {m : List Nat} (hm : ∀ b, b ∈ m → b ∈ l) {a k : Nat} (ha : a ∈ l) (hk : k < 4) : gw (cW f h.words (fldI h.words m)) (a + k) = gw h.words (a + k) := by
  have q := (R.obj ha).1
  rw [cW_gw _ _ _ (by rw [R.1]; omega), fld_head R hm ha hk]
  rfl
theorem cw_nx (f : Int → Int) {m : List Nat} (hm : ∀ b, b ∈ m → b ∈ l) {a : Nat} (ha : a ∈ l) : nx (cW f h.words (fldI h.words m)) a = nx h.words a := by
  have := cw_head R f hm ha (k := 0) (by omega)
  rw [Nat.add_zero] at this
  unfold nx
  rw [this]
theorem cw_in (f : Int → Int) {a j : Nat} (ha : a ∈ l) (h1 : a + 4 ≤ j) (h2 : j < nx h.words a) : gw (cW f h.words (fldI h.words l)) j = f (gw h.words j) := by
  have q := (R.obj ha).2.1
  rw [cW_gw _ _ _ (by rw [R.1]; omega), fldI_iff.2 ⟨a, ha, h1, h2⟩]
  rfl
theorem cw_flds (f : Int → Int) {a : Nat} (ha : a ∈ l) : flds (cW f h.words (fldI h.words l)) a = (flds h.words a).map f := by
  have e := cw_head R f (fun _ b => b) ha (k := 0) (by omega)
  rw [Nat.add_zero] at e
  unfold flds
  rw [e, List.map_map]
  refine List.map_congr_left fun i hi => ?_
  rw [List.mem_range] at hi
  exact cw_in R f ha (by omega) (by unfold nx; omega)
theorem cw_parts (f : Int → Int) {m : List Nat} (hm : ∀ b, b ∈ m → b ∈ l) (kp rt : List Int) : PartsAt { h with words := cW f h.words (fldI h.words m), kept := kp, roots := rt } l :=
  parts_same R _ kp rt h.hash (cW_length _ _ _) (fun _ ha _ hk => cw_head R f hm ha hk)
theorem fldI_same (f : Int → Int) (j : Nat) : fldI (cW f h.words (fldI h.words l)) l j = fldI h.words l j := by
  rw [Bool.eq_iff_iff, fldI_iff, fldI_iff]
  constructor
  · rintro ⟨a, ha, h1, h2⟩
    rw [cw_nx R f (fun _ b => b) ha] at h2
    exact ⟨a, ha, h1, h2⟩
  · rintro ⟨a, ha, h1, h2⟩
    rw [← cw_nx R f (fun _ b => b) ha] at h2
    exact ⟨a, ha, h1, h2⟩
end

/-- A right heap whose words are changed, where what fits comes to what fits, is right. -/
theorem cw_right {h : Hp} {l : List Nat} (R : RightAt h l) (f : Int → Int) (hf : ∀ x, fitB l x = true → fitB l (f x) = true) :
    RightAt { h with words := cW f h.words (fldI h.words l), roots := h.roots.map f, kept := keptOf (cW f h.words (fldI h.words l)) l } l := by
  obtain ⟨P, N, H, H1, ⟨H2, H3⟩, L, RT, FF, -⟩ := R
  refine ⟨cw_parts P f (fun _ b => b) _ _, ?_, H, ?_, ⟨?_, ?_⟩, by simpa using L, ?_, ?_, rfl⟩
  · intro i hi hu
    show gw (cW f h.words (fldI h.words l)) i = 0
    rw [cW_gw _ _ _ (by rw [P.1]; exact hi), fldI_no (fun a ha h1 h2 => hu (P.used ha (by omega) h2))]
    exact N i hi hu
  · intro a ha
    show 1 ≤ gw (cW f h.words (fldI h.words l)) (a + 2)
    rw [cw_head P f (fun _ b => b) ha (by omega)]
    exact H1 a ha
  · intro a ha
    show gw (cW f h.words (fldI h.words l)) (a + 2) < h.hash
    rw [cw_head P f (fun _ b => b) ha (by omega)]
    exact H2 a ha
  · show (hashesOf (cW f h.words (fldI h.words l)) l).Nodup
    rw [show hashesOf (cW f h.words (fldI h.words l)) l = hashesOf h.words l from List.map_congr_left fun a ha => cw_head P f (fun _ b => b) ha (by omega)]
    exact H3
  · intro x hx
    obtain ⟨y, hy, rfl⟩ := List.mem_map.1 hx
    exact hf y (RT y hy)
  · intro a ha k h1 h2
    rw [show nx (cW f h.words (fldI h.words l)) a = nx h.words a from cw_nx P f (fun _ b => b) ha] at h2
    show fitB l (gw (cW f h.words (fldI h.words l)) k) = true
    rw [cw_in P f ha h1 h2]
    exact hf _ (FF a ha k h1 h2)

noncomputable def beW (f : Int → Int) (h : Hp) : List Int := cW f h.words (fldI h.words (obC h))
noncomputable def beH (f : Int → Int) (h : Hp) : Hp := { h with words := beW f h, roots := h.roots.map f, kept := keptOf (beW f h) (obC h) }
def fwd (a b x : Int) : Int := if x = a then b else x
def exg (a b x : Int) : Int := if x = a then b else if x = b then a else x
noncomputable def befB (h : Hp) (a b : Int) : Bool := okC h && (refB h a && refB h b)
noncomputable def beC (f : Int → Int) (h : Hp) (a b : Int) : Hp := if befB h a b = true then beH f h else zeroH
theorem be_no {f : Int → Int} {h : Hp} {a b : Int} (k : befB h a b = false) : beC f h a b = zeroH := by unfold beC; rw [k]; rfl
theorem be_yes {f : Int → Int} {h : Hp} {a b : Int} (k : befB h a b = true) : beC f h a b = beH f h := by unfold beC; rw [k]; rfl
theorem befB_iff {h : Hp} {a b : Int} : befB h a b = true ↔ okC h = true ∧ refB h a = true ∧ refB h b = true := by unfold befB; simp
theorem ref_fit {h : Hp} {x : Int} (k : refB h x = true) : fitB (obC h) x = true := by
  obtain ⟨k2, a, ha, e⟩ := ref_mem k
  unfold fitB
  rw [k2, e, List.contains_iff_mem.2 (by unfold ints; exact List.mem_map.2 ⟨a, ha, rfl⟩)]
  rfl
theorem be_right {h : Hp} (k : okC h = true) (f : Int → Int) (hf : ∀ x, fitB (obC h) x = true → fitB (obC h) (f x) = true) : RightAt (beH f h) (obC h) := cw_right (c_right k) f hf
theorem fwd_fit {h : Hp} {a b : Int} (hb : refB h b = true) (x : Int) (hx : fitB (obC h) x = true) : fitB (obC h) (fwd a b x) = true := by
  unfold fwd
  split
  · exact ref_fit hb
  · exact hx
theorem exg_fit {h : Hp} {a b : Int} (ha : refB h a = true) (hb : refB h b = true) (x : Int) (hx : fitB (obC h) x = true) : fitB (obC h) (exg a b x) = true := by
  unfold exg
  split
  · exact ref_fit hb
  · split
    · exact ref_fit ha
    · exact hx
theorem beW_length (f : Int → Int) (h : Hp) : (beW f h).length = h.words.length := cW_length _ _ _
theorem be_id {h : Hp} {f : Int → Int} (k : okC h = true) (hf : ∀ x, f x = x) : beH f h = h := by
  have R := c_right k
  have e : beW f h = h.words := cW_id fun j _ _ => hf _
  unfold beH
  rw [e, R.2.2.2.2.2.2.2.2, show h.roots.map f = h.roots from by rw [List.map_congr_left (g := id) (fun x _ => hf x), List.map_id]]
theorem be_short {f : Int → Int} {h : Hp} {a b : Int} : (beC f h a b).words.length ≤ 3200 ∧ (beC f h a b).roots.length ≤ 20 ∧ (beC f h a b).kept.length ≤ 3200 := by
  unfold beC
  split
  · rename_i k
    have R := c_right (befB_iff.1 k).1
    refine ⟨?_, ?_, ?_⟩
    · show (beW f h).length ≤ 3200
      rw [beW_length, R.1.1]
      omega
    · show (h.roots.map f).length ≤ 20
      rw [List.length_map]
      exact R.2.2.2.2.2.1
    · show (keptOf (beW f h) (obC h)).length ≤ 3200
      unfold keptOf
      rw [ints_length]
      have := List.length_filter_le (fun a => decide (a < 2000) && hasY (beW f h) a) (obC h)
      have := ob_short h
      omega
  · exact ⟨by simp [zeroH], by simp [zeroH], by simp [zeroH]⟩

/-- Who has this word in a field. -/
noncomputable def rfC (h : Hp) (x : Int) : List Nat := if okC h = true then (if refB h x = true then (obC h).filter fun a => (flds h.words a).contains x else []) else []
theorem rf_no {h : Hp} {x : Int} (k : okC h = false) : rfC h x = [] := by unfold rfC; rw [k]; rfl
theorem rf_no2 {h : Hp} {x : Int} (k : refB h x = false) : rfC h x = [] := by unfold rfC; rw [k]; simp
theorem rf_yes {h : Hp} {x : Int} (k : okC h = true) (q : refB h x = true) : rfC h x = (obC h).filter fun a => (flds h.words a).contains x := by unfold rfC; rw [k, q]; rfl
theorem rf_short (h : Hp) (x : Int) : (rfC h x).length ≤ 3200 := by
  have := ob_short h
  unfold rfC
  split
  · split
    · have := List.length_filter_le (fun a => (flds h.words a).contains x) (obC h)
      omega
    · simp
  · simp

end Go.Proofs.Ytaldfkfjmgkjbaa
