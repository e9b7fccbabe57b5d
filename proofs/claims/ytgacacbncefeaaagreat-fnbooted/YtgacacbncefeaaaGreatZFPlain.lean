/- Get, Set, ClassOf and HashOf in plain words: a heap in which one field is set is right, and what is kept of it. -/
import Derived.Test.YtgacacbncefeaaaGreatZMPlain
namespace Go.Proofs.YtgacacbncefeaaaGreat
open Go.RowKit

/-- A word is the address of an object. -/
noncomputable def refB (h : Hp) (x : Int) : Bool := decide (kindW x = 2) && (ints (obC h)).contains (x / 2)
noncomputable def fldB (h : Hp) (x i : Int) : Bool := okC h && (refB h x && decide (0 ≤ i ∧ i < gw h.words (x / 2).toNat))
noncomputable def getC (h : Hp) (x i : Int) : Int := if fldB h x i = true then gw h.words ((x / 2).toNat + 4 + i.toNat) else 0
noncomputable def clsC (h : Hp) (x : Int) (k : Nat) (c : Int) : Int := if okC h = true then (if kindW x = 1 then c else if refB h x = true then gw h.words ((x / 2).toNat + k) else -1) else -1
noncomputable def putB (h : Hp) (x i y : Int) : Bool := okC h && (fitB (obC h) y && (refB h x && decide (0 ≤ i ∧ i < gw h.words (x / 2).toNat)))
noncomputable def putH (h : Hp) (a i : Nat) (y : Int) : Hp := { h with words := h.words.set (a + 4 + i) y, kept := keptOf (h.words.set (a + 4 + i) y) (obC h) }
noncomputable def putC (h : Hp) (x i y : Int) : Hp := if putB h x i y = true then putH h (x / 2).toNat i.toNat y else zeroH

theorem put_no {h : Hp} {x i y : Int} (k : putB h x i y = false) : putC h x i y = zeroH := by unfold putC; rw [k]; rfl
theorem put_yes {h : Hp} {x i y : Int} (k : putB h x i y = true) : putC h x i y = putH h (x / 2).toNat i.toNat y := by unfold putC; rw [k]; rfl
theorem ref_mem {h : Hp} {x : Int} (k : refB h x = true) : kindW x = 2 ∧ ∃ a : Nat, a ∈ obC h ∧ x / 2 = a := by
  unfold refB at k
  rw [Bool.and_eq_true, List.contains_iff_mem] at k
  obtain ⟨a, ha, e⟩ := List.mem_map.1 k.2
  exact ⟨of_decide_eq_true k.1, a, ha, e.symm⟩
theorem ref_of {h : Hp} {x : Int} {a : Nat} (k : kindW x = 2) (ha : a ∈ obC h) (e : x / 2 = a) : refB h x = true := by
  unfold refB
  rw [Bool.and_eq_true, List.contains_iff_mem]
  exact ⟨decide_eq_true k, List.mem_map.2 ⟨a, ha, e.symm⟩⟩

theorem gw_set (W : List Int) (k j : Nat) (y : Int) (h : k < W.length) : gw (W.set k y) j = if j = k then y else gw W j := by
  unfold gw
  simp only [List.getD_eq_getElem?_getD, List.getElem?_set]
  by_cases e : k = j
  · subst e
    simp [h]
  · rw [if_neg e, if_neg (Ne.symm e)]

/-- Objects lie apart, in the order of the list. -/
theorem its_apart {W : List Int} {f n a b : Nat} (ha : a ∈ its W f n) (hb : b ∈ its W f n) (h : a < b) : nx W a ≤ b := by
  obtain ⟨i, _, rfl⟩ := mem_its.1 ha
  obtain ⟨j, _, rfl⟩ := mem_its.1 hb
  exact it_next (it_lt h)
theorem goes_in {W : List Int} {f t n a : Nat} (g : Goes W f t n) (ha : a ∈ its W f n) : f ≤ a ∧ nx W a ≤ t ∧ a + 4 ≤ nx W a := by
  obtain ⟨i, hi, rfl⟩ := mem_its.1 ha
  have h1 := it_next (W := W) (f := f) hi
  have h2 := it_base W f i
  have h3 := it_step W f i
  rw [g.1] at h1
  exact ⟨by omega, h1, h3⟩
theorem PartsAt.used {h : Hp} {l : List Nat} (k : PartsAt h l) {a j : Nat} (ha : a ∈ l) (h1 : a ≤ j) (h2 : j < nx h.words a) : inUse h j := by
  obtain ⟨_, r0, r1, r2, n0, n1, n2, g0, g1, g2, rfl⟩ := k
  rw [List.mem_append, List.mem_append] at ha
  unfold inUse
  rcases ha with (ha | ha) | ha
  · have := goes_in g0 ha; omega
  · have := goes_in g1 ha; omega
  · have := goes_in g2 ha; omega
theorem PartsAt.apart {h : Hp} {l : List Nat} (k : PartsAt h l) {a b : Nat} (ha : a ∈ l) (hb : b ∈ l) (hab : a < b) : nx h.words a ≤ b := by
  obtain ⟨_, r0, r1, r2, n0, n1, n2, g0, g1, g2, rfl⟩ := k
  have hs : 2600 ≤ survB h.flip := by unfold survB; split <;> omega
  rw [List.mem_append, List.mem_append] at ha hb
  rcases ha with (ha | ha) | ha
  · have q := goes_in g0 ha
    rcases hb with (hb | hb) | hb
    · exact its_apart ha hb hab
    · have := goes_in g1 hb; omega
    · have := goes_in g2 hb; omega
  · have q := goes_in g1 ha
    rcases hb with (hb | hb) | hb
    · have := goes_in g0 hb; omega
    · exact its_apart ha hb hab
    · have := goes_in g2 hb; omega
  · have q := goes_in g2 ha
    rcases hb with (hb | hb) | hb
    · have := goes_in g0 hb; omega
    · have := goes_in g1 hb; omega
    · exact its_apart ha hb hab

/-- Words that differ in fields alone. -/
theorem it_same {W V : List Int} {f n : Nat} (h : ∀ i, i < n → gw V (it W f i) = gw W (it W f i)) : ∀ i, i ≤ n → it V f i = it W f i
  | 0, _ => rfl
  | i + 1, hi => by
    have q := it_same h i (by omega)
    show nx V (it V f i) = nx W (it W f i)
    rw [q]
    unfold nx
    rw [h i (by omega)]
theorem its_same {W V : List Int} {f n : Nat} (h : ∀ i, i < n → gw V (it W f i) = gw W (it W f i)) : its V f n = its W f n := by
  unfold its
  refine List.map_congr_left fun i hi => it_same h i ?_
  rw [List.mem_range] at hi
  omega
theorem head_same {W V : List Int} {a : Nat} (h : ∀ k, k < 4 → gw V (a + k) = gw W (a + k)) : headB V a = headB W a := by
  unfold headB
  rw [show gw V a = gw W a from h 0 (by omega), h 1 (by omega), h 3 (by omega)]
theorem goes_same {W V : List Int} {f t n : Nat} (g : Goes W f t n) (h : ∀ a, a ∈ its W f n → ∀ k, k < 4 → gw V (a + k) = gw W (a + k)) : Goes V f t n ∧ its V f n = its W f n := by
  have q : ∀ i, i < n → gw V (it W f i) = gw W (it W f i) := fun i hi => h _ (mem_its.2 ⟨i, hi, rfl⟩) 0 (by omega)
  refine ⟨⟨(it_same q n (Nat.le_refl _)).trans g.1, fun i hi => ?_⟩, its_same q⟩
  rw [it_same q i (by omega), head_same (h _ (mem_its.2 ⟨i, hi, rfl⟩))]
  exact g.2 i hi
/-- The same objects where their headers are the same. -/
theorem parts_same {h : Hp} {l : List Nat} (k : PartsAt h l) (V kp rt : List Int) (hs : Int) (hl : V.length = h.words.length) (hh : ∀ a, a ∈ l → ∀ k, k < 4 → gw V (a + k) = gw h.words (a + k)) : PartsAt { h with words := V, kept := kp, roots := rt, hash := hs } l := by
  obtain ⟨h0, r0, r1, r2, n0, n1, n2, g0, g1, g2, rfl⟩ := k
  have G0 := goes_same g0 (fun a ha => hh a (by simp [ha]))
  have G1 := goes_same g1 (fun a ha => hh a (by simp [ha]))
  have G2 := goes_same g2 (fun a ha => hh a (by simp [ha]))
  refine ⟨hl.trans h0, r0, r1, r2, n0, n1, n2, G0.1, G1.1, G2.1, ?_⟩
  show _ = its V 0 n0 ++ its V 2000 n1 ++ its V (survB h.flip) n2
  rw [G0.2, G1.2, G2.2]

section
variable {h : Hp} {l : List Nat} (R : RightAt h l) {a i : Nat} (ha : a ∈ l) (hi : (i : Int) < gw h.words a) (y : Int)
include R ha hi
theorem put_lt : a + 4 + i < nx h.words a ∧ a + 4 + i < 3200 := by
  have q := R.1.obj ha
  have : nx h.words a = a + 4 + (gw h.words a).toNat := rfl
  omega
theorem put_gw (j : Nat) : gw (h.words.set (a + 4 + i) y) j = if j = a + 4 + i then y else gw h.words j :=
  gw_set _ _ _ _ (by have := put_lt R ha hi; have := R.1.1; omega)
theorem put_far {b j : Nat} (hb : b ∈ l) (hb' : b ≠ a) (h1 : b ≤ j) (h2 : j < nx h.words b) : j ≠ a + 4 + i := by
  have q := put_lt R ha hi
  rcases Nat.lt_or_gt_of_ne hb' with k | k
  · have := R.1.apart hb ha k; omega
  · have := R.1.apart ha hb k; omega
theorem put_head {b k : Nat} (hb : b ∈ l) (hk : k < 4) : gw (h.words.set (a + 4 + i) y) (b + k) = gw h.words (b + k) := by
  rw [put_gw R ha hi, if_neg]
  by_cases e : b = a
  · omega
  · refine put_far R ha hi hb e (by omega) ?_
    have : nx h.words b = b + 4 + (gw h.words b).toNat := rfl
    omega
theorem put_nx {b : Nat} (hb : b ∈ l) : nx (h.words.set (a + 4 + i) y) b = nx h.words b := by
  unfold nx
  rw [show gw (h.words.set (a + 4 + i) y) b = gw h.words b from put_head R ha hi y hb (k := 0) (by omega)]
theorem put_flds {b : Nat} (hb : b ∈ l) (e : b ≠ a) : flds (h.words.set (a + 4 + i) y) b = flds h.words b := by
  unfold flds
  rw [show gw (h.words.set (a + 4 + i) y) b = gw h.words b from put_head R ha hi y hb (k := 0) (by omega)]
  refine List.map_congr_left fun j hj => ?_
  rw [List.mem_range] at hj
  rw [put_gw R ha hi, if_neg]
  refine put_far R ha hi hb e (by omega) ?_
  have : nx h.words b = b + 4 + (gw h.words b).toNat := rfl
  omega
/-- A field that is set leaves the heap right. -/
theorem put_right (hy : fitB l y = true) : RightAt { h with words := h.words.set (a + 4 + i) y, kept := keptOf (h.words.set (a + 4 + i) y) l } l := by
  obtain ⟨p, z, hh, h1, h2, r1, r2, f, k⟩ := id R
  refine ⟨parts_same p _ _ h.roots h.hash (by simp) (fun b hb k hk => put_head R ha hi y hb hk), fun j hj hn => ?_, hh, fun b hb => ?_, ⟨fun b hb => ?_, ?_⟩, r1, r2, fun b hb => ?_, rfl⟩
  · show gw (h.words.set (a + 4 + i) y) j = 0
    rw [put_gw R ha hi, if_neg]
    · exact z j hj hn
    · rintro rfl
      exact hn (p.used ha (by omega) (put_lt R ha hi).1)
  · show 1 ≤ gw (h.words.set (a + 4 + i) y) (b + 2)
    rw [put_head R ha hi y hb (by omega)]
    exact h1 b hb
  · show gw (h.words.set (a + 4 + i) y) (b + 2) < h.hash
    rw [put_head R ha hi y hb (by omega)]
    exact h2.1 b hb
  · have e : hashesOf (h.words.set (a + 4 + i) y) l = hashesOf h.words l := List.map_congr_left fun b hb => put_head R ha hi y hb (by omega)
    show (hashesOf (h.words.set (a + 4 + i) y) l).Nodup
    rw [e]
    exact h2.2
  · intro j j1 j2
    show fitB l (gw (h.words.set (a + 4 + i) y) j) = true
    have j2' : j < nx (h.words.set (a + 4 + i) y) b := j2
    rw [put_nx R ha hi y hb] at j2'
    rw [put_gw R ha hi]
    split
    · exact hy
    · exact f b hb j j1 j2'
/-- What is kept then: the one object comes to it or leaves it. -/
theorem put_kept : ∃ k1 k2 : List Int, (∀ z, z ∈ k1 → z < a) ∧ (∀ z, z ∈ k2 → (a : Int) < z) ∧
    h.kept = k1 ++ (if (decide (a < 2000) && hasY h.words a) = true then [(a : Int)] else []) ++ k2 ∧
    keptOf (h.words.set (a + 4 + i) y) l = k1 ++ (if (decide (a < 2000) && hasY (h.words.set (a + 4 + i) y) a) = true then [(a : Int)] else []) ++ k2 := by
  have so := ((right_iff R.1.1).1 R).1.sorted
  obtain ⟨l1, l2, rfl⟩ := List.append_of_mem ha
  rw [List.pairwise_append, List.pairwise_cons] at so
  obtain ⟨s1, ⟨s2, s3⟩, s4⟩ := so
  have hk : keptOf h.words (l1 ++ a :: l2) = h.kept := R.2.2.2.2.2.2.2.2
  have same : ∀ m : List Nat, (∀ b, b ∈ m → b ∈ l1 ++ a :: l2 ∧ b ≠ a) → m.filter (fun b => decide (b < 2000) && hasY (h.words.set (a + 4 + i) y) b) = m.filter (fun b => decide (b < 2000) && hasY h.words b) := fun m hm => by
    refine List.filter_congr fun b hb => ?_
    unfold hasY
    rw [put_flds R ha hi y (hm b hb).1 (hm b hb).2]
  have e1 := same l1 (fun b hb => ⟨by simp [hb], fun e => by have := s4 b hb a (by simp); omega⟩)
  have e2 := same l2 (fun b hb => ⟨by simp [hb], fun e => by have := s2 b hb; omega⟩)
  have cut : ∀ p : Nat → Bool, ints ((l1 ++ a :: l2).filter p) = ints (l1.filter p) ++ (if p a = true then [(a : Int)] else []) ++ ints (l2.filter p) := fun p => by
    rw [List.filter_append, List.filter_cons]
    by_cases e : p a = true
    · rw [if_pos e, if_pos e]; simp [ints]
    · rw [if_neg e, if_neg e]; simp [ints]
  refine ⟨ints (l1.filter fun b => decide (b < 2000) && hasY h.words b), ints (l2.filter fun b => decide (b < 2000) && hasY h.words b), fun z hz => ?_, fun z hz => ?_, ?_, ?_⟩
  · obtain ⟨b, hb, rfl⟩ := List.mem_map.1 hz
    have := s4 b (List.mem_filter.1 hb).1 a (by simp)
    omega
  · obtain ⟨b, hb, rfl⟩ := List.mem_map.1 hz
    have := s2 b (List.mem_filter.1 hb).1
    omega
  · rw [← hk]
    exact cut _
  · rw [← e1, ← e2]
    exact cut _
end

/-- A list that rises, with a number in it or without. -/
def lw (k : List Int) (n : Int) (b : Bool) : List Int :=
  if b = true then (if k.contains n = true then k else k.take (k.countP (· < n)) ++ n :: k.drop (k.countP (· < n))) else (if k.contains n = true then k.take (k.countP (· < n)) ++ k.drop (k.countP (· < n) + 1) else k)
theorem count_in {k1 k2 : List Int} {n : Int} (m : List Int) (h1 : ∀ z, z ∈ k1 → z < n) (h2 : ∀ z, z ∈ k2 → n < z) (hm : ∀ z, z ∈ m → z = n) : (k1 ++ m ++ k2).countP (· < n) = k1.length := by
  rw [List.countP_append, List.countP_append, List.countP_eq_length.2 (fun z hz => decide_eq_true (h1 z hz)), List.countP_eq_zero.2 (fun z hz => by have := hm z hz; simp; omega), List.countP_eq_zero.2 (fun z hz => by have := h2 z hz; simp; omega)]
  rfl
theorem lw_is {k1 k2 : List Int} {n : Int} (b0 b : Bool) (h1 : ∀ z, z ∈ k1 → z < n) (h2 : ∀ z, z ∈ k2 → n < z) :
    lw (k1 ++ (if b0 = true then [n] else []) ++ k2) n b = k1 ++ (if b = true then [n] else []) ++ k2 := by
  have no1 : ¬ n ∈ k1 := fun q => by have := h1 n q; omega
  have no2 : ¬ n ∈ k2 := fun q => by have := h2 n q; omega
  unfold lw
  cases b0 <;> cases b
  · simp [no1, no2]
  · rw [count_in _ h1 h2 (by simp)]
    simp [no1, no2]
  · rw [count_in _ h1 h2 (by simp)]
    simp
  · simp
theorem lw_kept {h : Hp} {l : List Nat} (R : RightAt h l) {a i : Nat} (ha : a ∈ l) (hi : (i : Int) < gw h.words a) (y : Int) :
    lw h.kept a (decide (a < 2000) && hasY (h.words.set (a + 4 + i) y) a) = keptOf (h.words.set (a + 4 + i) y) l := by
  obtain ⟨k1, k2, q1, q2, e1, e2⟩ := put_kept R ha hi y
  rw [e1, e2]
  exact lw_is _ _ q1 q2
theorem kept_sorted {h : Hp} {l : List Nat} (R : RightAt h l) : h.kept.Pairwise (· ≤ ·) := by
  have so := ((right_iff R.1.1).1 R).1.sorted
  rw [← R.2.2.2.2.2.2.2.2]
  unfold keptOf ints
  rw [List.pairwise_map]
  exact (so.filter _).imp (fun q => by omega)
theorem kept_short {h : Hp} {l : List Nat} (R : RightAt h l) : h.kept.length ≤ 3200 := by
  rw [← R.2.2.2.2.2.2.2.2]
  unfold keptOf
  rw [ints_length]
  exact Nat.le_trans (List.length_filter_le _ _) R.1.short

end Go.Proofs.YtgacacbncefeaaaGreat
