/- The writes of a commit, in plain words. -/
import Derived.Test.YtddocjmjianajaaZME
namespace Go.Proofs.Ytddocjmjianajaa
open Go.RowKit

def all62 : List Int := (List.range 62).map fun i : Nat => (i : Int) + 2
/-- The sectors that are free of l, rising. -/
def freeL (l : List Int) : List Int := all62.filter fun x => !l.contains x
theorem all62_mem (x : Int) : x ∈ all62 ↔ 2 ≤ x ∧ x ≤ 63 := by
  unfold all62
  simp only [List.mem_map, List.mem_range]
  constructor
  · rintro ⟨i, h, rfl⟩; omega
  · intro h; exact ⟨(x - 2).toNat, by omega, by omega⟩
theorem all62_pair : all62.Pairwise (· < ·) := by
  unfold all62
  rw [List.pairwise_map]
  exact List.Pairwise.imp (fun h => by omega) List.pairwise_lt_range
theorem freeL_mem (l : List Int) (x : Int) : x ∈ freeL l ↔ (2 ≤ x ∧ x ≤ 63) ∧ ¬ x ∈ l := by
  unfold freeL
  rw [List.mem_filter, all62_mem]
  simp
theorem freeL_pair (l : List Int) : (freeL l).Pairwise (· < ·) := all62_pair.filter _
theorem pair_nodup {l : List Int} (h : l.Pairwise (· < ·)) : l.Nodup := List.Pairwise.imp (fun h => by omega) h
theorem free_cons (a : Int) (l : List Int) : freeL (a :: l) = (freeL l).erase a := by
  rw [(pair_nodup (freeL_pair l)).erase_eq_filter]
  unfold freeL
  rw [List.filter_filter]
  congr 1
  funext x
  simp only [List.contains_cons, Bool.not_or, bne]
theorem freeL_length (l : List Int) : 62 ≤ (freeL l).length + l.length := by
  induction l with
  | nil => decide +kernel
  | cons a l ih =>
    rw [free_cons, List.length_erase, List.length_cons]
    split <;> omega
theorem freeL_lt (l : List Int) {i j : Nat} (hij : i < j) (hj : j < (freeL l).length) : (freeL l).getD i 0 < (freeL l).getD j 0 := by
  have h := List.pairwise_iff_getElem.1 (freeL_pair l) i j (by omega) hj hij
  rw [List.getD_eq_getElem?_getD, List.getD_eq_getElem?_getD, List.getElem?_eq_getElem (by omega), List.getElem?_eq_getElem hj]
  exact h
theorem freeL_at (l : List Int) {j : Nat} (hj : j < (freeL l).length) : (freeL l).getD j 0 ∈ freeL l := by
  rw [List.getD_eq_getElem?_getD, List.getElem?_eq_getElem hj]
  exact List.getElem_mem hj
theorem freeL_range (l : List Int) {j : Nat} (hj : j < (freeL l).length) : 2 ≤ (freeL l).getD j 0 ∧ (freeL l).getD j 0 ≤ 63 ∧ ¬ (freeL l).getD j 0 ∈ l := by
  have := (freeL_mem l _).1 (freeL_at l hj)
  exact ⟨this.1.1, this.1.2, this.2⟩
theorem mem_at {l : List Int} {x : Int} (h : x ∈ l) : ∃ i, i < l.length ∧ l.getD i 0 = x := by
  obtain ⟨i, hi, e⟩ := List.mem_iff_getElem.1 h
  exact ⟨i, hi, by rw [List.getD_eq_getElem?_getD, List.getElem?_eq_getElem hi]; exact e⟩
theorem at_mem {l : List Int} {i : Nat} (h : i < l.length) : l.getD i 0 ∈ l := by
  rw [List.getD_eq_getElem?_getD, List.getElem?_eq_getElem h]
  exact List.getElem_mem h
theorem take_at' {l : List Int} {i j : Nat} (hi : i < j) : (l.take j).getD i 0 = l.getD i 0 := by simp [List.getD_eq_getElem?_getD, hi]
theorem take_mem {l : List Int} {i j : Nat} (hi : i < j) (hl : i < l.length) : l.getD i 0 ∈ l.take j := by
  have := at_mem (l := l.take j) (i := i) (by rw [List.length_take]; omega)
  rwa [take_at' hi] at this
theorem freeL_new (l : List Int) {j : Nat} (hj : j < (freeL l).length) : ¬ (freeL l).getD j 0 ∈ (freeL l).take j := by
  intro h
  obtain ⟨i, hi, e⟩ := mem_at h
  rw [List.length_take] at hi
  rw [take_at' (by omega)] at e
  have := freeL_lt l (i := i) (j := j) (by omega) hj
  omega
theorem freeL_less (l : List Int) {j : Nat} (hj : j < (freeL l).length) {x : Int} (h2 : 2 ≤ x) (hx : x < (freeL l).getD j 0) : x ∈ l ∨ x ∈ (freeL l).take j := by
  by_cases hl : x ∈ l
  · exact .inl hl
  · have r := freeL_range l hj
    have hm : x ∈ freeL l := (freeL_mem l x).2 ⟨⟨h2, by omega⟩, hl⟩
    obtain ⟨i, hi, e⟩ := mem_at hm
    have hij : i < j := by
      rcases Nat.lt_or_ge i j with h | h
      · exact h
      · exfalso
        rcases Nat.eq_or_lt_of_le h with h | h
        · subst h; omega
        · have := freeL_lt l h hi; omega
    refine .inr ?_
    rw [← e]
    exact take_mem hij hi
theorem take_snoc_free {l : List Int} {j : Nat} (hj : j < l.length) : l.take (j + 1) = l.take j ++ [l.getD j 0] := by
  rw [List.take_succ_eq_append_getElem hj]
  simp [hj]

def sameB (old bs : List ByteArray) (k : Nat) : Bool := decide (k < old.length) && decide (old.getD k ByteArray.empty = bs.getD k ByteArray.empty)
def scrStep (l : List Int) (old bs : List ByteArray) (e1 : Int) (p : List Disk.Wr × List Int) (k : Nat) : List Disk.Wr × List Int :=
  if sameB old bs k = true then (p.1, p.2 ++ [l.getD k 0]) else (p.1 ++ [((freeL l).getD p.1.length 0, packT k e1 (bs.getD k ByteArray.empty))], p.2 ++ [(freeL l).getD p.1.length 0])
def scrK (l : List Int) (old bs : List ByteArray) (e1 : Int) : Nat → List Disk.Wr × List Int
  | 0 => ([], [])
  | k + 1 => scrStep l old bs e1 (scrK l old bs e1 k) k
theorem scr_same {l : List Int} {old bs : List ByteArray} {e1 : Int} {k : Nat} (h : sameB old bs k = true) : scrK l old bs e1 (k + 1) = ((scrK l old bs e1 k).1, (scrK l old bs e1 k).2 ++ [l.getD k 0]) := by
  show scrStep l old bs e1 (scrK l old bs e1 k) k = _
  unfold scrStep
  rw [if_pos h]
theorem scr_new {l : List Int} {old bs : List ByteArray} {e1 : Int} {k : Nat} (h : sameB old bs k = false) : scrK l old bs e1 (k + 1) = ((scrK l old bs e1 k).1 ++ [((freeL l).getD (scrK l old bs e1 k).1.length 0, packT k e1 (bs.getD k ByteArray.empty))], (scrK l old bs e1 k).2 ++ [(freeL l).getD (scrK l old bs e1 k).1.length 0]) := by
  show scrStep l old bs e1 (scrK l old bs e1 k) k = _
  unfold scrStep
  rw [if_neg (by rw [h]; simp)]
theorem scr_len (l : List Int) (old bs : List ByteArray) (e1 : Int) (k : Nat) : (scrK l old bs e1 k).2.length = k ∧ (scrK l old bs e1 k).1.length ≤ k := by
  induction k with
  | zero => exact ⟨rfl, Nat.le_refl _⟩
  | succ k ih =>
    cases h : sameB old bs k
    · rw [scr_new h]; simp only [List.length_append, List.length_cons, List.length_nil]; omega
    · rw [scr_same h]; simp only [List.length_append, List.length_cons, List.length_nil]; omega

theorem snoc_at {l : List Int} {y : Int} {i : Nat} (h : i < l.length) : (l ++ [y]).getD i 0 = l.getD i 0 := by simp [List.getD_eq_getElem?_getD, List.getElem?_append_left h]
theorem snoc_last {l : List Int} {y : Int} : (l ++ [y]).getD l.length 0 = y := by simp [List.getD_eq_getElem?_getD]
theorem good_snoc {l : List Int} {y : Int} {i : Nat} (h : i < l.length) : goodAt (l ++ [y]) i = goodAt l i := by
  unfold goodAt
  rw [snoc_at h, List.take_append_of_le_length (by omega)]
theorem rowOk_snoc {l : List Int} {y : Int} (h : rowOk l l.length = true) (h1 : 2 ≤ y ∧ y ≤ 63) (h2 : ¬ y ∈ l) : rowOk (l ++ [y]) (l.length + 1) = true := by
  rw [rowOk_succ, Bool.and_eq_true]
  constructor
  · unfold rowOk at h ⊢
    rw [List.all_eq_true] at h ⊢
    intro i hi
    rw [good_snoc (List.mem_range.1 hi)]
    exact h i hi
  · refine goodAt_yes (by rw [snoc_last]; exact h1) ?_
    rw [snoc_last, List.take_append_of_le_length (Nat.le_refl _), List.take_length]
    simpa using h2
theorem rowOk_at {l : List Int} {n i : Nat} (h : rowOk l n = true) (hi : i < n) : 2 ≤ l.getD i 0 ∧ l.getD i 0 ≤ 63 ∧ ∀ j, j < i → j < l.length → l.getD j 0 ≠ l.getD i 0 := by
  unfold rowOk at h
  have := List.all_eq_true.1 h i (List.mem_range.2 hi)
  unfold goodAt at this
  simp only [Bool.and_eq_true, decide_eq_true_eq, Bool.not_eq_true', List.contains_eq_mem, decide_eq_false_iff_not] at this
  refine ⟨this.1.1, this.1.2, fun j hj hl e => this.2 ?_⟩
  rw [← e]
  exact take_mem hj hl

/-- What holds of the sectors of a commit. -/
theorem scr_inv (l : List Int) (old bs : List ByteArray) (e1 : Int) (hl : rowOk l l.length = true) (hl30 : l.length ≤ 30) (ho : old.length = l.length) (k : Nat) (hk : k ≤ 30) :
    rowOk (scrK l old bs e1 k).2 k = true ∧ ∀ i, i < k → (i < l.length ∧ (scrK l old bs e1 k).2.getD i 0 = l.getD i 0) ∨ (scrK l old bs e1 k).2.getD i 0 ∈ (freeL l).take (scrK l old bs e1 k).1.length := by
  induction k with
  | zero => exact ⟨rfl, fun i hi => absurd hi (Nat.not_lt_zero i)⟩
  | succ k ih =>
    obtain ⟨h1, h2⟩ := ih (by omega)
    obtain ⟨n1, n2⟩ := scr_len l old bs e1 k
    have fl := freeL_length l
    cases h : sameB old bs k
    · rw [scr_new h]
      generalize scrK l old bs e1 k = p at *
      obtain ⟨ws, ls⟩ := p
      simp only at h1 h2 n1 n2 ⊢
      subst n1
      have hj : ws.length < (freeL l).length := by omega
      obtain ⟨r1, r2, r3⟩ := freeL_range l hj
      refine ⟨rowOk_snoc h1 ⟨r1, r2⟩ (fun hm => ?_), fun i hi => ?_⟩
      · obtain ⟨i, hi, e⟩ := mem_at hm
        rcases h2 i hi with ⟨g1, g2⟩ | g
        · rw [e] at g2
          exact r3 (by rw [g2]; exact at_mem g1)
        · rw [e] at g
          exact freeL_new l hj g
      · rw [List.length_append, List.length_cons, List.length_nil, take_snoc_free hj]
        rcases Nat.lt_or_ge i ls.length with hi' | hi'
        · rw [snoc_at hi']
          rcases h2 i hi' with g | g
          · exact .inl g
          · exact .inr (List.mem_append_left _ g)
        · obtain rfl : i = ls.length := by omega
          rw [snoc_last]
          exact .inr (List.mem_append_right _ (List.mem_singleton.2 rfl))
    · rw [scr_same h]
      have hkl : k < l.length := by
        unfold sameB at h
        simp only [Bool.and_eq_true, decide_eq_true_eq] at h
        omega
      generalize scrK l old bs e1 k = p at *
      obtain ⟨ws, ls⟩ := p
      simp only at h1 h2 n1 n2 ⊢
      subst n1
      obtain ⟨r1, r2, r3⟩ := rowOk_at hl hkl
      refine ⟨rowOk_snoc h1 ⟨r1, r2⟩ (fun hm => ?_), fun i hi => ?_⟩
      · obtain ⟨i, hi, e⟩ := mem_at hm
        rcases h2 i hi with ⟨g1, g2⟩ | g
        · rw [g2] at e
          exact r3 i hi g1 e
        · rw [e] at g
          exact ((freeL_mem l _).1 (List.mem_of_mem_take g)).2 (at_mem hkl)
      · rcases Nat.lt_or_ge i ls.length with hi' | hi'
        · rw [snoc_at hi']
          exact h2 i hi'
        · obtain rfl : i = ls.length := by omega
          rw [snoc_last]
          exact .inl ⟨hkl, rfl⟩

theorem openR_body (s : ByteArray) : (openR s).2.2.1.size ≤ 200 := by
  unfold openR
  have e0 : (⟨#[]⟩ : ByteArray).size = 0 := rfl
  split
  · simp only; omega
  · split
    · simp only; omega
    · split
      · rename_i h
        split
        · exact (pgOk_range h).2.2.2.2
        · simp only; omega
      · simp only; omega
theorem newR_super (ss : List ByteArray) : (newR ss = (0, []) ∨ ∃ t, (t = textAt ss 0 ∨ t = textAt ss 1) ∧ superR ss t = some (newR ss)) := by
  have key : ∀ t, orNone (superR ss t) = (0, []) ∨ superR ss t = some (orNone (superR ss t)) := by
    intro t
    cases h : superR ss t
    · exact .inl rfl
    · exact .inr rfl
  by_cases h : (orNone (superR ss (textAt ss 0))).1 < (orNone (superR ss (textAt ss 1))).1
  · rw [newR_yes h]
    rcases key (textAt ss 1) with k | k
    · exact .inl k
    · exact .inr ⟨_, .inr rfl, k⟩
  · rw [newR_no h]
    rcases key (textAt ss 0) with k | k
    · exact .inl k
    · exact .inr ⟨_, .inl rfl, k⟩
theorem newR_ok (ss : List ByteArray) : rowOk (newR ss).2 (newR ss).2.length = true ∧ (newR ss).2.length ≤ 30 := by
  rcases newR_super ss with h | ⟨t, _, h⟩
  · rw [h]; exact ⟨rfl, Nat.zero_le _⟩
  · obtain ⟨_, h2, _⟩ := superR_pos (e := (newR ss).1) (l := (newR ss).2) h
    have := supOk_parts (supR_is h2).1
    exact ⟨this.2.2.2, this.2.2.1⟩

def lastE (ss : List ByteArray) : Int := max (orNone (supR (textAt ss 0))).1 (orNone (supR (textAt ss 1))).1
theorem or_epoch (s : ByteArray) : 0 ≤ (orNone (supR s)).1 ∧ (orNone (supR s)).1 ≤ 999999999 := by
  cases h : supR s with
  | none => exact ⟨Int.le_refl _, by decide⟩
  | some p => obtain ⟨e, l⟩ := p; have := supOk_parts (supR_is h).1; exact ⟨by show 0 ≤ e; omega, this.2.1⟩
theorem lastE_range (ss : List ByteArray) : 0 ≤ lastE ss ∧ lastE ss ≤ 999999999 := by
  have h0 := or_epoch (textAt ss 0)
  have h1 := or_epoch (textAt ss 1)
  unfold lastE
  omega
def oldB (ss : List ByteArray) : List ByteArray := bodiesK ss (newR ss).2 (newR ss).2.length
theorem oldB_length (ss : List ByteArray) : (oldB ss).length = (newR ss).2.length := bodiesK_length ..
def fitB (bs : List ByteArray) : Bool := bs.all fun b => decide (b.size ≤ 200)
def scrOk (ss : List ByteArray) (ws : List Disk.Wr) (bs : List ByteArray) : Bool := Disk.okD ss ws && decide (bs.length ≤ 30) && fitB bs && decide (lastE ss ≤ 999999998)
def scrP (ss : List ByteArray) (bs : List ByteArray) (k : Nat) : List Disk.Wr × List Int := scrK (newR ss).2 (oldB ss) bs (lastE ss + 1) k
def scrW (ss : List ByteArray) (bs : List ByteArray) : List Disk.Wr := (scrP ss bs bs.length).1 ++ [((lastE ss + 1) % 2, supT (lastE ss + 1) (scrP ss bs bs.length).2)]
theorem scrP_ok (ss bs : List ByteArray) (hb : bs.length ≤ 30) (he : lastE ss ≤ 999999998) : supOk (lastE ss + 1) (scrP ss bs bs.length).2 = true := by
  have h0 := lastE_range ss
  have n := scr_len (newR ss).2 (oldB ss) bs (lastE ss + 1) bs.length
  have i := scr_inv (newR ss).2 (oldB ss) bs (lastE ss + 1) (newR_ok ss).1 (newR_ok ss).2 (oldB_length ss) bs.length hb
  refine supOk_yes (by omega) (by omega) (by unfold scrP; omega) ?_
  unfold scrP
  rw [n.1]
  exact i.1
theorem scrP_not (ss bs : List ByteArray) (he : ¬ lastE ss ≤ 999999998) : supOk (lastE ss + 1) (scrP ss bs bs.length).2 = false := supOk_e (by have := lastE_range ss; omega)
theorem oldB_fit (ss : List ByteArray) (i : Nat) : ((oldB ss).getD i ByteArray.empty).size ≤ 200 := by
  unfold oldB bodiesK
  rcases Nat.lt_or_ge i (newR ss).2.length with h | h
  · rw [Disk.getD_map_range _ _ _ _ h]
    exact openR_body _
  · rw [List.getD_eq_getElem?_getD, List.getElem?_eq_none (by simpa using h)]
    exact Nat.zero_le _
theorem fitB_of {ss bs : List ByteArray} {e1 : Int} (h : ∀ i, i < bs.length → sameB (oldB ss) bs i = true ∨ pgOk i e1 (bs.getD i ByteArray.empty) = true) : fitB bs = true := by
  unfold fitB
  rw [List.all_eq_true]
  intro b hb
  obtain ⟨i, hi, e⟩ := List.mem_iff_getElem.1 hb
  have eb : bs.getD i ByteArray.empty = b := by rw [List.getD_eq_getElem?_getD, List.getElem?_eq_getElem hi]; exact e
  rw [decide_eq_true_eq]
  rcases h i hi with g | g
  · unfold sameB at g
    simp only [Bool.and_eq_true, decide_eq_true_eq] at g
    rw [← eb, ← g.2]
    exact oldB_fit ss i
  · rw [eb] at g
    exact (pgOk_range g).2.2.2.2
theorem fitB_at {bs : List ByteArray} (h : fitB bs = true) {i : Nat} (hi : i < bs.length) : (bs.getD i ByteArray.empty).size ≤ 200 := by
  unfold fitB at h
  rw [List.all_eq_true] at h
  have := h bs[i] (List.getElem_mem hi)
  rw [decide_eq_true_eq] at this
  rw [List.getD_eq_getElem?_getD, List.getElem?_eq_getElem hi]
  exact this
theorem fitB_not {bs : List ByteArray} {i : Nat} (hi : i < bs.length) (h : ¬ (bs.getD i ByteArray.empty).size ≤ 200) : fitB bs = false := by
  cases g : fitB bs
  · rfl
  · exact absurd (fitB_at g hi) h
theorem scrOk_no1 {ss : List ByteArray} {ws : List Disk.Wr} {bs : List ByteArray} (h : Disk.okD ss ws = false) : scrOk ss ws bs = false := by unfold scrOk; rw [h]; rfl
theorem scrOk_no2 {ss : List ByteArray} {ws : List Disk.Wr} {bs : List ByteArray} (h : ¬ bs.length ≤ 30) : scrOk ss ws bs = false := by unfold scrOk; rw [decide_eq_false h]; simp
theorem scrOk_no3 {ss : List ByteArray} {ws : List Disk.Wr} {bs : List ByteArray} (h : fitB bs = false) : scrOk ss ws bs = false := by unfold scrOk; rw [h]; simp
theorem scrOk_no4 {ss : List ByteArray} {ws : List Disk.Wr} {bs : List ByteArray} (h : ¬ lastE ss ≤ 999999998) : scrOk ss ws bs = false := by unfold scrOk; rw [decide_eq_false h]; simp
theorem scrOk_yes {ss : List ByteArray} {ws : List Disk.Wr} {bs : List ByteArray} (h1 : Disk.okD ss ws = true) (h2 : bs.length ≤ 30) (h3 : fitB bs = true) (h4 : lastE ss ≤ 999999998) : scrOk ss ws bs = true := by unfold scrOk; rw [h1, h3, decide_eq_true h2, decide_eq_true h4]; rfl
theorem scrOk_parts {ss : List ByteArray} {ws : List Disk.Wr} {bs : List ByteArray} (h : scrOk ss ws bs = true) : Disk.okD ss ws = true ∧ bs.length ≤ 30 ∧ fitB bs = true ∧ lastE ss ≤ 999999998 := by
  unfold scrOk at h
  simp only [Bool.and_eq_true, decide_eq_true_eq] at h
  exact ⟨h.1.1.1, h.1.1.2, h.1.2, h.2⟩
theorem scrW_length (ss bs : List ByteArray) : 1 ≤ (scrW ss bs).length ∧ (scrW ss bs).length ≤ bs.length + 1 := by
  have n := scr_len (newR ss).2 (oldB ss) bs (lastE ss + 1) bs.length
  unfold scrW scrP
  rw [List.length_append, List.length_singleton]
  omega

end Go.Proofs.Ytddocjmjianajaa
