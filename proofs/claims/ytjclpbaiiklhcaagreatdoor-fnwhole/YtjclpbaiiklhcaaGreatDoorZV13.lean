import Derived.Test.YtjclpbaiiklhcaaGreatDoorZNewI
import Derived.Test.YtjclpbaiiklhcaaGreatDoorZV4
/- The writes of a commit, in plain words. -/
namespace Go.Proofs.YtjclpbaiiklhcaaGreatDoor
open Go.RowKit

def all62 : List Int := (List.range 62).map fun i : Nat => (i : Int) + 2
/-- The sectors that are free of l, rising. -/
def freeL (l : List Int) : List Int := all62.filter fun x => !l.contains x
theorem all62_mem (x : Int) : x ∈ all62 ↔ 2 ≤ x ∧ x ≤ 63 := by
  unfold all62
  simp only [List.mem_map, List.mem_range]
  constructor
  · rintro ⟨i, h, rfl⟩; omega
  · intro h; exact ⟨(x - 2).toNat, by omega, by omega⟩
theorem all62_pair : all62.Pairwise (· < ·) := by
  unfold all62
  rw [List.pairwise_map]
  exact List.Pairwise.imp (fun h => by omega) List.pairwise_lt_range
theorem freeL_mem (l : List Int) (x : Int) : x ∈ freeL l ↔ (2 ≤ x ∧ x ≤ 63) ∧ ¬ x ∈ l := by
  unfold freeL
  rw [List.mem_filter, all62_mem]
  simp
theorem freeL_pair (l : List Int) : (freeL l).Pairwise (· < ·) := all62_pair.filter _
theorem pair_nodup {l : List Int} (h : l.Pairwise (· < ·)) : l.Nodup := List.Pairwise.imp (fun h => by omega) h
theorem free_cons (a : Int) (l : List Int) : freeL (a :: l) = (freeL l).erase a := by
  rw [(pair_nodup (freeL_pair l)).erase_eq_filter]
  unfold freeL
  rw [List.filter_filter]
  congr 1
  funext x
  simp only [List.contains_cons, Bool.not_or, bne]
theorem freeL_length (l : List Int) : 62 ≤ (freeL l).length + l.length := by
  induction l with
  | nil => decide +kernel
  | cons a l ih =>
    rw [free_cons, List.length_erase, List.length_cons]
    split <;> omega
theorem freeL_lt (l : List Int) {i j : Nat} (hij : i < j) (hj : j < (freeL l).length) : (freeL l).getD i 0 < (freeL l).getD j 0 := by
  have h := List.pairwise_iff_getElem.1 (freeL_pair l) i j (by omega) hj hij
  rw [List.getD_eq_getElem?_getD, List.getD_eq_getElem?_getD, List.getElem?_eq_getElem (by omega), List.getElem?_eq_getElem hj]
  exact h
theorem freeL_at (l : List Int) {j : Nat} (hj : j < (freeL l).length) : (freeL l).getD j 0 ∈ freeL l := by
  rw [List.getD_eq_getElem?_getD, List.getElem?_eq_getElem hj]
  exact List.getElem_mem hj
theorem freeL_range (l : List Int) {j : Nat} (hj : j < (freeL l).length) : 2 ≤ (freeL l).getD j 0 ∧ (freeL l).getD j 0 ≤ 63 ∧ ¬ (freeL l).getD j 0 ∈ l := by
  have := (freeL_mem l _).1 (freeL_at l hj)
  exact ⟨this.1.1, this.1.2, this.2⟩
theorem mem_at {l : List Int} {x : Int} (h : x ∈ l) : ∃ i, i < l.length ∧ l.getD i 0 = x := by
  obtain ⟨i, hi, e⟩ := List.mem_iff_getElem.1 h
  exact ⟨i, hi, by rw [List.getD_eq_getElem?_getD, List.getElem?_eq_getElem hi]; exact e⟩
theorem at_mem {l : List Int} {i : Nat} (h : i < l.length) : l.getD i 0 ∈ l := by
  rw [List.getD_eq_getElem?_getD, List.getElem?_eq_getElem h]
  exact List.getElem_mem h
theorem take_at' {l : List Int} {i j : Nat} (hi : i < j) : (l.take j).getD i 0 = l.getD i 0 := by simp [List.getD_eq_getElem?_getD, hi]
theorem take_mem {l : List Int} {i j : Nat} (hi : i < j) (hl : i < l.length) : l.getD i 0 ∈ l.take j := by
  have := at_mem (l := l.take j) (i := i) (by rw [List.length_take]; omega)
  rwa [take_at' hi] at this
theorem freeL_new (l : List Int) {j : Nat} (hj : j < (freeL l).length) : ¬ (freeL l).getD j 0 ∈ (freeL l).take j := by
  intro h
  obtain ⟨i, hi, e⟩ := mem_at h
  rw [List.length_take] at hi
  rw [take_at' (by omega)] at e
  have := freeL_lt l (i := i) (j := j) (by omega) hj
  omega
theorem freeL_less (l : List Int) {j : Nat} (hj : j < (freeL l).length) {x : Int} (h2 : 2 ≤ x) (hx : x < (freeL l).getD j 0) : x ∈ l ∨ x ∈ (freeL l).take j := by
  by_cases hl : x ∈ l
  · exact .inl hl
  · have r := freeL_range l hj
    have hm : x ∈ freeL l := (freeL_mem l x).2 ⟨⟨h2, by omega⟩, hl⟩
    obtain ⟨i, hi, e⟩ := mem_at hm
    have hij : i < j := by
      rcases Nat.lt_or_ge i j with h | h
      · exact h
      · exfalso
        rcases Nat.eq_or_lt_of_le h with h | h
        · subst h; omega
        · have := freeL_lt l h hi; omega
    refine .inr ?_
    rw [← e]
    exact take_mem hij hi
theorem take_snoc_free {l : List Int} {j : Nat} (hj : j < l.length) : l.take (j + 1) = l.take j ++ [l.getD j 0] := by
  rw [List.take_succ_eq_append_getElem hj]
  simp [hj]

def sameB (old bs : List ByteArray) (k : Nat) : Bool := decide (k < old.length) && decide (old.getD k ByteArray.empty = bs.getD k ByteArray.empty)
def scrStep (l : List Int) (old bs : List ByteArray) (e1 : Int) (p : List Disk.Wr × List Int) (k : Nat) : List Disk.Wr × List Int :=
  if sameB old bs k = true then (p.1, p.2 ++ [l.getD k 0]) else (p.1 ++ [((freeL l).getD p.1.length 0, packT k e1 (bs.getD k ByteArray.empty))], p.2 ++ [(freeL l).getD p.1.length 0])
def scrK (l : List Int) (old bs : List ByteArray) (e1 : Int) : Nat → List Disk.Wr × List Int
  | 0 => ([], [])
  | k + 1 => scrStep l old bs e1 (scrK l old bs e1 k) k
theorem scr_same {l : List Int} {old bs : List ByteArray} {e1 : Int} {k : Nat} (h : sameB old bs k = true) : scrK l old bs e1 (k + 1) = ((scrK l old bs e1 k).1, (scrK l old bs e1 k).2 ++ [l.getD k 0]) := by
  show scrStep l old bs e1 (scrK l old bs e1 k) k = _
  unfold scrStep
  rw [if_pos h]
theorem scr_new {l : List Int} {old bs : List ByteArray} {e1 : Int} {k : Nat} (h : sameB old bs k = false) : scrK l old bs e1 (k + 1) = ((scrK l old bs e1 k).1 ++ [((freeL l).getD (scrK l old bs e1 k).1.length 0, packT k e1 (bs.getD k ByteArray.empty))], (scrK l old bs e1 k).2 ++ [(freeL l).getD (scrK l old bs e1 k).1.length 0]) := by
  show scrStep l old bs e1 (scrK l old bs e1 k) k = _
  unfold scrStep
  rw [if_neg (by rw [h]; simp)]
theorem scr_len (l : List Int) (old bs : List ByteArray) (e1 : Int) (k : Nat) : (scrK l old bs e1 k).2.length = k ∧ (scrK l old bs e1 k).1.length ≤ k := by
  induction k with
  | zero => exact ⟨rfl, Nat.le_refl _⟩
  | succ k ih =>
    cases h : sameB old bs k
    · rw [scr_new h]; simp only [List.length_append, List.length_cons, List.length_nil]; omega
    · rw [scr_same h]; simp only [List.length_append, List.length_cons, List.length_nil]; omega

theorem snoc_at {l : List Int} {y : Int} {i : Nat} (h : i < l.length) : (l ++ [y]).getD i 0 = l.getD i 0 := by simp [List.getD_eq_getElem?_getD, List.getElem?_append_left h]
theorem snoc_last {l : List Int} {y : Int} : (l ++ [y]).getD l.length 0 = y := by simp [List.getD_eq_getElem?_getD]
theorem good_snoc {l : List Int} {y : Int} {i : Nat} (h : i < l.length) : goodAt (l ++ [y]) i = goodAt l i := by
  unfold goodAt
  rw [snoc_at h, List.take_append_of_le_length (by omega)]
theorem rowOk_snoc {l : List Int} {y : Int} (h : rowOk l l.length = true) (h1 : 2 ≤ y ∧ y ≤ 63) (h2 : ¬ y ∈ l) : rowOk (l ++ [y]) (l.length + 1) = true := by
  rw [rowOk_succ, Bool.and_eq_true]
  constructor
  · unfold rowOk at h ⊢
    rw [List.all_eq_true] at h ⊢
    intro i hi
    rw [good_snoc (List.mem_range.1 hi)]
    exact h i hi
  · refine goodAt_yes (by rw [snoc_last]; exact h1) ?_
    rw [snoc_last, List.take_append_of_le_length (Nat.le_refl _), List.take_length]
    simpa using h2
theorem rowOk_at {l : List Int} {n i : Nat} (h : rowOk l n = true) (hi : i < n) : 2 ≤ l.getD i 0 ∧ l.getD i 0 ≤ 63 ∧ ∀ j, j < i → j < l.length → l.getD j 0 ≠ l.getD i 0 := by
  unfold rowOk at h
  have := List.all_eq_true.1 h i (List.mem_range.2 hi)
  unfold goodAt at this
  simp only [Bool.and_eq_true, decide_eq_true_eq, Bool.not_eq_true', List.contains_eq_mem, decide_eq_false_iff_not] at this
  refine ⟨this.1.1, this.1.2, fun j hj hl e => this.2 ?_⟩
  rw [← e]
  exact take_mem hj hl

/-- What holds of the sectors of a commit. -/
theorem scr_inv (l : List Int) (old bs : List ByteArray) (e1 : Int) (hl : rowOk l l.length = true) (hl30 : l.length ≤ 30) (ho : old.length = l.length) (k : Nat) (hk : k ≤ 30) :
    rowOk (scrK l old bs e1 k).2 k = true ∧ ∀ i, i < k → (i < l.length ∧ (scrK l old bs e1 k).2.getD i 0 = l.getD i 0) ∨ (scrK l old bs e1 k).2.getD i 0 ∈ (freeL l).take (scrK l old bs e1 k).1.length := by
  induction k with
  | zero => exact ⟨rfl, fun i hi => absurd hi (Nat.not_lt_zero i)⟩
  | succ k ih =>
    obtain ⟨h1, h2⟩ := ih (by omega)
    obtain ⟨n1, n2⟩ := scr_len l old bs e1 k
    have fl := freeL_length l
    cases h : sameB old bs k
    · rw [scr_new h]
      generalize scrK l old bs e1 k = p at *
      obtain ⟨ws, ls⟩ := p
      simp only at h1 h2 n1 n2 ⊢
      subst n1
      have hj : ws.length < (freeL l).length := by omega
      obtain ⟨r1, r2, r3⟩ := freeL_range l hj
      refine ⟨rowOk_snoc h1 ⟨r1, r2⟩ (fun hm => ?_), fun i hi => ?_⟩
      · obtain ⟨i, hi, e⟩ := mem_at hm
        rcases h2 i hi with ⟨g1, g2⟩ | g
        · rw [e] at g2
          exact r3 (by rw [g2]; exact at_mem g1)
        · rw [e] at g
          exact freeL_new l hj g
      · rw [List.length_append, List.length_cons, List.length_nil, take_snoc_free hj]
        rcases Nat.lt_or_ge i ls.length with hi' | hi'
        · rw [snoc_at hi']
          rcases h2 i hi' with g | g
          · exact .inl g
          · exact .inr (List.mem_append_left _ g)
        · obtain rfl : i = ls.length := by omega
          rw [snoc_last]
          exact .inr (List.mem_append_right _ (List.mem_singleton.2 rfl))
    · rw [scr_same h]
      have hkl : k < l.length := by
        unfold sameB at h
        simp only [Bool.and_eq_true, decide_eq_true_eq] at h
        omega
      generalize scrK l old bs e1 k = p at *
      obtain ⟨ws, ls⟩ := p
      simp only at h1 h2 n1 n2 ⊢
      subst n1
      obtain ⟨r1, r2, r3⟩ := rowOk_at hl hkl
      refine ⟨rowOk_snoc h1 ⟨r1, r2⟩ (fun hm => ?_), fun i hi => ?_⟩
      · obtain ⟨i, hi, e⟩ := mem_at hm
        rcases h2 i hi with ⟨g1, g2⟩ | g
        · rw [g2] at e
          exact r3 i hi g1 e
        · rw [e] at g
          exact ((freeL_mem l _).1 (List.mem_of_mem_take g)).2 (at_mem hkl)
      · rcases Nat.lt_or_ge i ls.length with hi' | hi'
        · rw [snoc_at hi']
          exact h2 i hi'
        · obtain rfl : i = ls.length := by omega
          rw [snoc_last]
          exact .inl ⟨hkl, rfl⟩

theorem openR_body (s : ByteArray) : (openR s).2.2.1.size ≤ 200 := by
  unfold openR
  have e0 : (⟨#[]⟩ : ByteArray).size = 0 := rfl
  split
  · simp only; omega
  · split
    · simp only; omega
    · split
      · rename_i h
        split
        · exact (pgOk_range h).2.2.2.2
        · simp only; omega
      · simp only; omega
theorem newR_super (ss : List ByteArray) : (newR ss = (0, []) ∨ ∃ t, (t = textAt ss 0 ∨ t = textAt ss 1) ∧ superR ss t = some (newR ss)) := by
  have key : ∀ t, orNone (superR ss t) = (0, []) ∨ superR ss t = some (orNone (superR ss t)) := by
    intro t
    cases h : superR ss t
    · exact .inl rfl
    · exact .inr rfl
  by_cases h : (orNone (superR ss (textAt ss 0))).1 < (orNone (superR ss (textAt ss 1))).1
  · rw [newR_yes h]
    rcases key (textAt ss 1) with k | k
    · exact .inl k
    · exact .inr ⟨_, .inr rfl, k⟩
  · rw [newR_no h]
    rcases key (textAt ss 0) with k | k
    · exact .inl k
    · exact .inr ⟨_, .inl rfl, k⟩
theorem newR_ok (ss : List ByteArray) : rowOk (newR ss).2 (newR ss).2.length = true ∧ (newR ss).2.length ≤ 30 := by
  rcases newR_super ss with h | ⟨t, _, h⟩
  · rw [h]; exact ⟨rfl, Nat.zero_le _⟩
  · obtain ⟨_, h2, _⟩ := superR_pos (e := (newR ss).1) (l := (newR ss).2) h
    have := supOk_parts (supR_is h2).1
    exact ⟨this.2.2.2, this.2.2.1⟩

def lastE (ss : List ByteArray) : Int := max (orNone (supR (textAt ss 0))).1 (orNone (supR (textAt ss 1))).1
theorem or_epoch (s : ByteArray) : 0 ≤ (orNone (supR s)).1 ∧ (orNone (supR s)).1 ≤ 999999999 := by
  cases h : supR s with
  | none => exact ⟨Int.le_refl _, by decide⟩
  | some p => obtain ⟨e, l⟩ := p; have := supOk_parts (supR_is h).1; exact ⟨by show 0 ≤ e; omega, this.2.1⟩
theorem lastE_range (ss : List ByteArray) : 0 ≤ lastE ss ∧ lastE ss ≤ 999999999 := by
  have h0 := or_epoch (textAt ss 0)
  have h1 := or_epoch (textAt ss 1)
  unfold lastE
  omega
def oldB (ss : List ByteArray) : List ByteArray := bodiesK ss (newR ss).2 (newR ss).2.length
theorem oldB_length (ss : List ByteArray) : (oldB ss).length = (newR ss).2.length := bodiesK_length ..
def fitB (bs : List ByteArray) : Bool := bs.all fun b => decide (b.size ≤ 200)
def scrOk (ss : List ByteArray) (ws : List Disk.Wr) (bs : List ByteArray) : Bool := Disk.okD ss ws && decide (bs.length ≤ 30) && fitB bs && decide (lastE ss ≤ 999999998)
def scrP (ss : List ByteArray) (bs : List ByteArray) (k : Nat) : List Disk.Wr × List Int := scrK (newR ss).2 (oldB ss) bs (lastE ss + 1) k
def scrW (ss : List ByteArray) (bs : List ByteArray) : List Disk.Wr := (scrP ss bs bs.length).1 ++ [((lastE ss + 1) % 2, supT (lastE ss + 1) (scrP ss bs bs.length).2)]
theorem scrP_ok (ss bs : List ByteArray) (hb : bs.length ≤ 30) (he : lastE ss ≤ 999999998) : supOk (lastE ss + 1) (scrP ss bs bs.length).2 = true := by
  have h0 := lastE_range ss
  have n := scr_len (newR ss).2 (oldB ss) bs (lastE ss + 1) bs.length
  have i := scr_inv (newR ss).2 (oldB ss) bs (lastE ss + 1) (newR_ok ss).1 (newR_ok ss).2 (oldB_length ss) bs.length hb
  refine supOk_yes (by omega) (by omega) (by unfold scrP; omega) ?_
  unfold scrP
  rw [n.1]
  exact i.1
theorem scrP_not (ss bs : List ByteArray) (he : ¬ lastE ss ≤ 999999998) : supOk (lastE ss + 1) (scrP ss bs bs.length).2 = false := supOk_e (by have := lastE_range ss; omega)
theorem oldB_fit (ss : List ByteArray) (i : Nat) : ((oldB ss).getD i ByteArray.empty).size ≤ 200 := by
  unfold oldB bodiesK
  rcases Nat.lt_or_ge i (newR ss).2.length with h | h
  · rw [Disk.getD_map_range _ _ _ _ h]
    exact openR_body _
  · rw [List.getD_eq_getElem?_getD, List.getElem?_eq_none (by simpa using h)]
    exact Nat.zero_le _
theorem fitB_of {ss bs : List ByteArray} {e1 : Int} (h : ∀ i, i < bs.length → sameB (oldB ss) bs i = true ∨ pgOk i e1 (bs.getD i ByteArray.empty) = true) : fitB bs = true := by
  unfold fitB
  rw [List.all_eq_true]
  intro b hb
  obtain ⟨i, hi, e⟩ := List.mem_iff_getElem.1 hb
  have eb : bs.getD i ByteArray.empty = b := by rw [List.getD_eq_getElem?_getD, List.getElem?_eq_getElem hi]; exact e
  rw [decide_eq_true_eq]
  rcases h i hi with g | g
  · unfold sameB at g
    simp only [Bool.and_eq_true, decide_eq_true_eq] at g
    rw [← eb, ← g.2]
    exact oldB_fit ss i
  · rw [eb] at g
    exact (pgOk_range g).2.2.2.2
theorem fitB_at {bs : List ByteArray} (h : fitB bs = true) {i : Nat} (hi : i < bs.length) : (bs.getD i ByteArray.empty).size ≤ 200 := by
  unfold fitB at h
  rw [List.all_eq_true] at h
  have := h bs[i] (List.getElem_mem hi)
  rw [decide_eq_true_eq] at this
  rw [List.getD_eq_getElem?_getD, List.getElem?_eq_getElem hi]
  exact this
theorem fitB_not {bs : List ByteArray} {i : Nat} (hi : i < bs.length) (h : ¬ (bs.getD i ByteArray.empty).size ≤ 200) : fitB bs = false := by
  cases g : fitB bs
  · rfl
  · exact absurd (fitB_at g hi) h
theorem scrOk_no1 {ss : List ByteArray} {ws : List Disk.Wr} {bs : List ByteArray} (h : Disk.okD ss ws = false) : scrOk ss ws bs = false := by unfold scrOk; rw [h]; rfl
theorem scrOk_no2 {ss : List ByteArray} {ws : List Disk.Wr} {bs : List ByteArray} (h : ¬ bs.length ≤ 30) : scrOk ss ws bs = false := by unfold scrOk; rw [decide_eq_false h]; simp
theorem scrOk_no3 {ss : List ByteArray} {ws : List Disk.Wr} {bs : List ByteArray} (h : fitB bs = false) : scrOk ss ws bs = false := by unfold scrOk; rw [h]; simp
theorem scrOk_no4 {ss : List ByteArray} {ws : List Disk.Wr} {bs : List ByteArray} (h : ¬ lastE ss ≤ 999999998) : scrOk ss ws bs = false := by unfold scrOk; rw [decide_eq_false h]; simp
theorem scrOk_yes {ss : List ByteArray} {ws : List Disk.Wr} {bs : List ByteArray} (h1 : Disk.okD ss ws = true) (h2 : bs.length ≤ 30) (h3 : fitB bs = true) (h4 : lastE ss ≤ 999999998) : scrOk ss ws bs = true := by unfold scrOk; rw [h1, h3, decide_eq_true h2, decide_eq_true h4]; rfl
theorem scrOk_parts {ss : List ByteArray} {ws : List Disk.Wr} {bs : List ByteArray} (h : scrOk ss ws bs = true) : Disk.okD ss ws = true ∧ bs.length ≤ 30 ∧ fitB bs = true ∧ lastE ss ≤ 999999998 := by
  unfold scrOk at h
  simp only [Bool.and_eq_true, decide_eq_true_eq] at h
  exact ⟨h.1.1.1, h.1.1.2, h.1.2, h.2⟩
theorem scrW_length (ss bs : List ByteArray) : 1 ≤ (scrW ss bs).length ∧ (scrW ss bs).length ≤ bs.length + 1 := by
  have n := scr_len (newR ss).2 (oldB ss) bs (lastE ss + 1) bs.length
  unfold scrW scrP
  rw [List.length_append, List.length_singleton]
  omega

end Go.Proofs.YtjclpbaiiklhcaaGreatDoor

/- A disk copied into memory of its own whose late writes may be appended to: l1Copy once more. -/
namespace Go.Proofs.YtjclpbaiiklhcaaGreatDoor.Disk
open Go.RowKit Go.Deep

attribute [local go_sem ↓] Go.wp_at_zero Go.wp_at_succ

/-- Late writes in a row of their own from block B on, with what room there is. -/
def NO (B : Nat) (w : World) (v : Value) (ws : List Wr) : Prop := (∃ ao, v = .slice ao 0 0 ∧ ws = []) ∨ w.ownsRow B 48 2 v ws.length (lcells ws)
theorem NO.later {B : Nat} {w w' : World} {v : Value} {ws : List Wr} (h : NO B w v ws) (hb : Below w.heap.size w w') : NO B w' v ws :=
  h.imp id (fun h => h.kept (grown_below (row := none) hb) (by cases hv : v.ownBlock <;> simp))
theorem NO.al {B : Nat} {w : World} {v : Value} {ws : List Wr} (h : NO B w v ws) (o : Obj) : NO B (w.alloc o) v ws := h.later (bel_one w o)
theorem NO.dr {B : Nat} {w : World} {v : Value} {ws : List Wr} (h : NO B w v ws) : NO B w.drew v ws := h
theorem NO.mono {B B' : Nat} {w : World} {v : Value} {ws : List Wr} (h : NO B w v ws) (hb : B' ≤ B) : NO B' w v ws := by
  rcases h with h | ⟨hl, h | ⟨g, cap, cur, e, hB, r⟩⟩
  · exact .inl h
  · exact .inr ⟨hl, .inl h⟩
  · exact .inr ⟨hl, .inr ⟨g, cap, cur, e, Nat.le_trans hb hB, r⟩⟩
theorem NO.store {B : Nat} {w : World} {v : Value} {ws : List Wr} (h : NO B w v ws) {b o : Nat} (u : Value) (hb : b < B) : NO B (w.setCell ⟨b, o, none⟩ u) v ws :=
  h.imp id (fun h => h.kept (grown_set w b o u) (by
    cases hv : v.ownBlock with
    | none => exact .inl rfl
    | some k =>
      refine .inr (fun e => ?_)
      have := (h.lt k hv).1
      cases e
      omega))
theorem NO.s1 {B : Nat} {w : World} {v : Value} {ws : List Wr} (h : NO B w v ws) : ∃ ao n cap, v = .slice ao n cap := by
  rcases h with ⟨ao, rfl, _⟩ | ⟨_, ⟨rfl, _⟩ | ⟨g, cap, cur, rfl, _⟩⟩
  · exact ⟨_, _, _, rfl⟩
  · exact ⟨_, _, _, rfl⟩
  · exact ⟨_, _, _, rfl⟩
theorem owned_row2 {w : World} {B e size n : Nat} {b cap : Nat} {xs : List Value} (g : Nat → Value) (h : w.ownsRow B e size (.slice (some ⟨b, 0, none⟩) n cap) n xs) (hg : ∀ i, i < xs.length → xs[i]? = some (g i)) :
    ∃ (N : Nat) (f : Nat → Value), w.rowIs b e N (fun i => if i < n * size then g i else f i) ∧ n * size ≤ N ∧ B ≤ b := by
  obtain ⟨hl, h⟩ := h
  rcases h with ⟨h, _⟩ | ⟨b', cap', cur, hv, hB, hh, hnc, _, hsz, htk⟩
  · simp at h
  · simp only [Value.slice.injEq, Option.some.injEq, Addr.mk.injEq, and_true] at hv
    obtain ⟨rfl, _, rfl⟩ := hv
    have hle : n * size ≤ cur.size := by rw [hsz]; exact Nat.mul_le_mul_right _ hnc
    refine ⟨cur.size, fun i => cur[i]?.getD undef, ⟨cur, hh, rfl, fun i hi => ?_⟩, hle, hB⟩
    show cur[i]? = some (if i < n * size then g i else cur[i]?.getD undef)
    by_cases hin : i < n * size
    · rw [if_pos hin]
      have hx := hg i (by omega)
      rw [← htk, List.getElem?_take_of_lt hin] at hx
      simpa using hx
    · rw [if_neg hin]
      simp [hi]
theorem NO.nw {B : Nat} {w : World} {v : Value} {ws : List Wr} (h : NO B w v ws) : NW B w v ws := by
  have emp : ∀ ao c, NW B w (.slice ao 0 c) [] := fun ao c => ⟨⟨_, _, rfl, .inl rfl⟩, ⟨_, _, rfl, fun i hi => by simp at hi⟩, fun b e => by simp [rowOf] at e⟩
  rcases h with ⟨ao, rfl, rfl⟩ | h
  · exact emp _ _
  · have h' := h
    obtain ⟨hl, ⟨rfl, hn⟩ | ⟨g, cap, cur, rfl, _⟩⟩ := h'
    · obtain rfl := List.length_eq_zero_iff.1 hn
      exact emp _ _
    · obtain ⟨N, f, hr, hN, hB⟩ := owned_row2 (lcell ws) h (fun i hi => by rw [lcells_length] at hi; exact lcells_get ws i hi)
      exact nw_row hr hN hB

theorem run_copyO (w : World) (g : Nat) (v : Value) (ws : List Wr) (ty : TypeId) (hv : WR w v ws) (hl : ws.length ≤ 1000000000000) :
    ∃ v' w', (Builtin.append_ #[25, 25] ty #[.slice (some ⟨g, 0, none⟩) 0 0, v]).run Tryz.prog w = .ok v' w' ∧ NO w.heap.size w' v' ws ∧ Below w.heap.size w w' := by
  obtain ⟨i, hi, hzz⟩ := Option.map_eq_some_iff.1 Tryz.info53
  simp only [Prod.mk.injEq] at hzz
  obtain ⟨hz, hs, hb⟩ := hzz
  have hsrc := srcW hv
  by_cases h0 : ws.length = 0
  · obtain rfl := List.length_eq_zero_iff.1 h0
    have hr := run_append_room_src (P := Tryz.prog) w 25 25 ty 48 i Tryz.under28 hi g 0 0 0 v 0 [] (by rw [hs]; exact hsrc) (by omega) (fun j hj => by simp at hj) (fun j hj => by simp at hj)
    exact ⟨_, _, hr, .inl ⟨_, rfl, rfl⟩, Below.refl _ _⟩
  · have hr := run_append_grow_src (P := Tryz.prog) w 25 25 ty 48 i _ Tryz.under28 hi hz (some ⟨g, 0, none⟩) 0 0 [] (by simp [Builtin.firstCells]; exact run_loadCells_list (P := Tryz.prog) w.drew ⟨g, 0, none⟩ [] (fun j v hj => by simp at hj)) v ws.length (lcells ws) (by rw [hs]; exact hsrc) (by omega) (by omega) (growslice_fits (by omega) (by rw [hb]; omega))
    rw [Nat.zero_add, List.nil_append] at hr
    have hge := grownCap_ge w ws.length 0 48
    refine ⟨_, _, hr, .inr ⟨lcells_length ws, .inr ⟨w.heap.size, _, _, rfl, Nat.le_refl _, heap_alloc_new w.drew _, hge, grownCap_le_maxLen w ws.length 0 48 (by unfold maxLen; omega), ?_, ?_⟩⟩, (Below.refl _ w).drew.alloc (Nat.le_refl _) _⟩
    · rw [Array.size_append, size_zeroCells, List.size_toArray, lcells_length]
      simp [Value.cells]
      omega
    · rw [Array.toList_append, ← lcells_length ws]
      exact List.take_left

theorem step_copyO {ops : Array Oper} {o : Oper} {a : Act} {w : World} {K : Act → World → Prop} {Q : Exit → Act → World → Prop} {E : Prop} (hgd : o.guard = none) (s x : Operand)
    (ho : o.op = .call { callee := .builtin .append, args := #[s, x], argTypes := #[25, 25] }) (g : Nat) (hs : a.eval s = .slice (some ⟨g, 0, none⟩) 0 0) (v : Value) (ws : List Wr) (hx : a.eval x = v) (hv : WR w v ws) (hl : ws.length ≤ 1000000000000)
    (h : ∀ ao n cap w', NO w.heap.size w' (.slice ao n cap) ws → Below w.heap.size w w' → K (a.put o.dst (.slice ao n cap)) w') :
    if Region.wanted o (yielded ops a.tmps) = true then Oper.wp Tryz.prog o a w K Q else E := by
  have hw : Region.wanted o (yielded ops a.tmps) = true := by simp [Region.wanted, hgd]
  rw [if_pos hw]
  obtain ⟨v', w', hrun, hN, hb⟩ := run_copyO w g v ws o.type hv hl
  obtain ⟨ao, n, cap, rfl⟩ := hN.s1
  unfold Oper.wp
  simp [execOp, ho, resolve, invoke, builtin, hs, hx, hrun, Result.andThen]
  exact h _ _ _ _ hN hb

/-- One write more. -/
theorem lcells_snoc (ws : List Wr) (x : Wr) : lcells (ws ++ [x]) = lcells ws ++ [.int .i64 x.1, .string x.2] := by simp [lcells]

/-- The row that an append may write into: none where there is no room at all. -/
def rowO : Value → Option Nat
  | .slice (some a) _ cap => if cap = 0 then none else some a.block
  | _ => none
theorem NO.two {B : Nat} {w : World} {v : Value} {ws : List Wr} (h : NO B w v ws) : (∃ ao, v = .slice ao 0 0 ∧ ws = []) ∨ (w.ownsRow B 48 2 v ws.length (lcells ws) ∧ rowO v = v.ownBlock) := by
  rcases h with h | h
  · exact .inl h
  · have h' := h
    obtain ⟨hl, ⟨rfl, hn⟩ | ⟨g, cap, cur, rfl, hB, hh, hnc, _⟩⟩ := h'
    · exact .inl ⟨none, rfl, List.length_eq_zero_iff.1 hn⟩
    · by_cases hc : cap = 0
      · have h0 : ws.length = 0 := by omega
        obtain rfl := List.length_eq_zero_iff.1 h0
        subst hc
        exact .inl ⟨_, rfl, rfl⟩
      · exact .inr ⟨h, by simp [rowO, hc, Value.ownBlock]⟩
theorem NO.row {B : Nat} {w : World} {v : Value} {ws : List Wr} (h : NO B w v ws) : ∀ k, rowO v = some k → B ≤ k ∧ k < w.heap.size := by
  intro k hk
  rcases h.two with ⟨ao, rfl, _⟩ | ⟨h, e⟩
  · cases ao <;> simp [rowO] at hk
  · exact h.lt k (by rw [← e]; exact hk)

theorem run_one (w : World) (B xb : Nat) (v : Value) (ws : List Wr) (x : Wr) (ty : TypeId) (hv : NO B w v ws) (hx0 : w.cell? ⟨xb, 0, none⟩ = some (.int .i64 x.1)) (hx1 : w.cell? ⟨xb, 1, none⟩ = some (.string x.2)) (hl : ws.length ≤ 1000000000000) (hB : B ≤ w.heap.size) :
    ∃ ao n cap w', (Builtin.append_ #[25, 25] ty #[v, .slice (some ⟨xb, 0, none⟩) 1 1]).run Tryz.prog w = .ok (.slice ao n cap) w' ∧ NO B w' (.slice ao n cap) (ws ++ [x]) ∧ w.grownBy w' (rowO v) := by
  obtain ⟨i, hi, hzz⟩ := Option.map_eq_some_iff.1 Tryz.info53
  simp only [Prod.mk.injEq] at hzz
  obtain ⟨hz, hs, hb⟩ := hzz
  have hnews : ∀ (j : Nat) (u : Value), [Value.int .i64 x.1, .string x.2][j]? = some u → w.cell? ((⟨xb, 0, none⟩ : Addr).add j) = some u := by
    intro j u hu
    rw [Addr.add_lit, Nat.zero_add]
    match j, hu with
    | 0, hu => simp at hu; rw [← hu]; exact hx0
    | 1, hu => simp at hu; rw [← hu]; exact hx1
    | j + 2, hu => simp at hu
  have hone : ∀ u ∈ [Value.int .i64 x.1, .string x.2], u.oneCell' = true := by
    intro u hu
    simp at hu
    rcases hu with rfl | rfl <;> rfl
  have key : ∀ v', w.ownsRow B 48 2 v' ws.length (lcells ws) → rowO v' = v'.ownBlock → v' = v → ∃ ao n cap w', (Builtin.append_ #[25, 25] ty #[v, .slice (some ⟨xb, 0, none⟩) 1 1]).run Tryz.prog w = .ok (.slice ao n cap) w' ∧ NO B w' (.slice ao n cap) (ws ++ [x]) ∧ w.grownBy w' (rowO v) := by
    rintro v' h e rfl
    obtain ⟨u, w', hr, ho, hg, _⟩ := run_append_own (P := Tryz.prog) w B 25 ty 48 i _ 2 24 Tryz.under28 hi hz hs hb rfl (by omega) v' ws.length (lcells ws) h ⟨xb, 0, none⟩ 1 1 _ rfl hnews hone (by unfold maxLen; omega) (by omega) hB
    rw [← lcells_snoc] at ho
    have hN : NO B w' u (ws ++ [x]) := .inr (by rw [List.length_append]; exact ho)
    obtain ⟨ao, n, cap, rfl⟩ := hN.s1
    exact ⟨ao, n, cap, w', hr, hN, by rw [e]; exact hg⟩
  rcases hv.two with ⟨ao, rfl, rfl⟩ | ⟨h, e⟩
  · have hsrc := Src.ofSlice (P := Tryz.prog) (size := 2) (tx := 25) w Tryz.under28 ⟨xb, 0, none⟩ 1 1 [Value.int .i64 x.1, .string x.2] rfl hnews hone
    have hold : (Builtin.firstCells i.size 0 (.slice ao 0 0)).run Tryz.prog w.drew = .ok ([] : List Value).toArray w.drew := by
      cases ao with
      | none => simp [Builtin.firstCells]
      | some a => simp [Builtin.firstCells]; exact run_loadCells_list (P := Tryz.prog) w.drew a [] (fun j v hj => by simp at hj)
    have hr := run_append_grow_src (P := Tryz.prog) w 25 25 ty 48 i _ Tryz.under28 hi hz ao 0 0 [] hold (.slice (some ⟨xb, 0, none⟩) 1 1) 1 [Value.int .i64 x.1, .string x.2] (by rw [hs]; exact hsrc) (by omega) (by omega) (growslice_fits (by omega) (by rw [hb]; omega))
    rw [Nat.zero_add, List.nil_append] at hr
    have hge := grownCap_ge w 1 0 48
    refine ⟨_, _, _, _, hr, .inr ⟨lcells_length _, .inr ⟨w.heap.size, _, _, rfl, hB, heap_alloc_new w.drew _, hge, grownCap_le_maxLen w 1 0 48 (by unfold maxLen; omega), ?_, ?_⟩⟩, ⟨rfl, rfl, rfl, by simp, fun k hk _ => (bel_one w.drew _).block k hk⟩⟩
    · rw [Array.size_append, size_zeroCells, List.size_toArray]
      simp [Value.cells]
      omega
    · rw [Array.toList_append]
      show List.take (List.length [Value.int .i64 x.1, .string x.2]) ([Value.int .i64 x.1, .string x.2] ++ _) = [Value.int .i64 x.1, .string x.2]
      exact List.take_left
  · exact key v h e rfl

theorem step_copyWO {ops : Array Oper} {o : Oper} {a : Act} {w : World} {K : Act → World → Prop} {Q : Exit → Act → World → Prop} {E : Prop} (t : TypeId) (hgd : o.guard = none) (s x : Operand)
    (ho : o.op = .call { callee := .builtin .append, args := #[s, x], argTypes := #[t, t] }) (g : Nat) (hs : a.eval s = .slice (some ⟨g, 0, none⟩) 0 0) (v : Value) (ss : List ByteArray) (ws : List Wr) (hx : a.eval x = v)
    (hl1 : ss.length ≤ 1000000000000) (hl2 : ws.length ≤ 1000000000000)
    (h : (t = 24 ∧ SR w v ss ∧ ∀ ao n cap w', NS w.heap.size w' (.slice ao n cap) ss → Below w.heap.size w w' → CapS (.slice ao n cap) → K (a.put o.dst (.slice ao n cap)) w') ∨
      (t = 25 ∧ WR w v ws ∧ ∀ ao n cap w', NO w.heap.size w' (.slice ao n cap) ws → Below w.heap.size w w' → K (a.put o.dst (.slice ao n cap)) w')) :
    if Region.wanted o (yielded ops a.tmps) = true then Oper.wp Tryz.prog o a w K Q else E := by
  rcases h with ⟨rfl, hv, h⟩ | ⟨rfl, hv, h⟩
  · exact step_copyS hgd s x ho g hs v ss hx hv hl1 h
  · exact step_copyO hgd s x ho g hs v ws hx hv hl2 h

set_option maxRecDepth 100000 in
set_option maxHeartbeats 3200000 in
theorem specCopyO_cap (v1 v2 : Value) (ss : List ByteArray) (ws : List Wr) (w : World) (hv1 : SR w v1 ss) (hv2 : WR w v2 ws) (h1 : ss.length ≤ 1000000000000) (h2 : ws.length ≤ 1000000000000) :
    Calls Tryz.prog 30 #[.agg #[v1, v2]] w fun e w' => ∃ u1 u2, e = .returned (.agg #[u1, u2]) ∧ NS w.heap.size w' u1 ss ∧ NO w.heap.size w' u2 ws ∧ Below w.heap.size w w' ∧ CapS u1 := by
  have r0 : Res (w.heap.size + 1) ((w.alloc (.cells #[v1, v2] 27)).alloc (.cells #[.slice none 0 0, .slice none 0 0] 27)) :=
    ⟨cell_new _ _ 27 _ (by simp) 0 _ rfl, cell_new _ _ 27 _ (by simp) 1 _ rfl, frozen_new _ _ 27 _ (by simp) 0, frozen_new _ _ 27 _ (by simp) 1, by simp⟩
  go_enter Tryz.func30, Tryz.ntmps30
  go_wp2_with fail
  go_region_held3 (fun w' => w'.cell? ⟨w.heap.size, 0, none⟩ = some v1 ∧ w'.cell? ⟨w.heap.size, 1, none⟩ = some v2)
    (first
      | (go_keep; done)
      | (go_split_ands; refine ⟨?_, ?_⟩ <;> (first | (with_reducible exact cell_later (bel_one _ _) (by assumption)) | (rw [hbA.cell ?_]; (focus assumption); (focus (first | (simp; done) | (simp; omega) | omega))) | (rw [hbB.cell ?_]; (focus assumption); (focus (first | (simp; done) | (simp; omega) | omega))) | (rw [World.cell?_setCell_other _ _ _ _ (by simp), World.cell?_setCell_other _ _ _ _ (by simp)]; assumption))))
    ((refine step_copyWO _ (by rfl) _ _ (by rfl) _ (by rfl) _ ss ws (by rfl) h1 h2 ?_; (first | (refine .inl ⟨rfl, ?_, ?_⟩; (focus (repeat (first | (with_reducible refine SR.dr ?_) | (with_reducible refine SR.al ?_ _) | (with_reducible refine SR.later ?_ hbB) | exact hv1))); intro ao an ac wA hNA hbA hcA; have rA : Res (w.heap.size + 1) wA := (by (refine Res.later ?_ hbA; repeat (first | (with_reducible exact r0) | (with_reducible exact rB) | (with_reducible refine Res.dr ?_) | (with_reducible refine Res.al ?_ _)))); have qA := rA.1; have pA := rA.2.1; have fA := rA.2.2.1; have gA := rA.2.2.2.1; have zA := rA.2.2.2.2) | (refine .inr ⟨rfl, ?_, ?_⟩; (focus (repeat (first | (with_reducible refine WR.dr ?_) | (with_reducible refine WR.al ?_ _) | (with_reducible refine WR.later ?_ hbA) | exact hv2))); intro bo bn bc wB hNB hbB; have rB : Res (w.heap.size + 1) wB := (by (refine Res.later ?_ hbB; repeat (first | (with_reducible exact r0) | (with_reducible exact rA) | (with_reducible refine Res.dr ?_) | (with_reducible refine Res.al ?_ _)))); have qB := rB.1; have pB := rB.2.1; have fB := rB.2.2.1; have gB := rB.2.2.2.1; have zB := rB.2.2.2.2))))
  all_goals
    have hbw1 : Below w.heap.size w wA := by
      refine Below.trans ?_ (hbA.mono (by first | (simp; done) | (simp; omega)))
      first
        | exact ((bel_two _ _ _).alloc (by simp; omega) _).drew
        | exact (((bel_two _ _ _).alloc (by simp; omega) _).alloc (by simp; omega) _).drew
    have hbw : Below w.heap.size w wB := by
      refine Below.trans ?_ (hbB.mono (by first | (simp; omega) | omega))
      first
        | exact hbw1
        | exact hbw1.alloc hbw1.size _
    have e0 : NS (w.heap.size + 1 + 1) wA (.slice ao an ac) ss := hNA.mono (by first | (simp; done) | (simp; omega))
    have e1 : NS (w.heap.size + 1 + 1) wB (.slice ao an ac) ss := by
      first
        | (with_reducible exact e0.later hbB)
        | (with_reducible exact (e0.al _).later hbB)
    have e2 : NO (w.heap.size + 1 + 1) wB (.slice bo bn bc) ws := hNB.mono (by first | (simp; omega) | omega)
    have e3 := (e1.store (b := w.heap.size + 1) (o := 0) (.slice ao an ac) (by omega)).store (b := w.heap.size + 1) (o := 1) (.slice bo bn bc) (by omega)
    have e4 := (e2.store (b := w.heap.size + 1) (o := 0) (.slice ao an ac) (by omega)).store (b := w.heap.size + 1) (o := 1) (.slice bo bn bc) (by omega)
    have e5 := (hbw.setCell (p := ⟨w.heap.size + 1, 0, none⟩) (by simp) (.slice ao an ac)).setCell (p := ⟨w.heap.size + 1, 1, none⟩) (by simp) (.slice bo bn bc)
    clear e0 e1 e2 hbw hbw1 hNA hNB hbA hbB rA rB r0
    go_wp2
    exact bodyPost_ret (v := .agg #[.slice ao an ac, .slice bo bn bc]) (by simp [results, Tryz.results30, go_sem, qB, pB]) rfl ⟨_, _, rfl, e3.mono (by omega), e4.mono (by omega), e5, hcA⟩

theorem specCopyO_any (v1 v2 : Value) (ss : List ByteArray) (ws : List Wr) (w : World) (hv1 : SR w v1 ss) (hv2 : WR w v2 ws) (h1 : ss.length ≤ 1000000000000) (h2 : ws.length ≤ 1000000000000) :
    Calls Tryz.prog 30 #[.agg #[v1, v2]] w fun e w' => ∃ u1 u2, e = .returned (.agg #[u1, u2]) ∧ NS w.heap.size w' u1 ss ∧ NO w.heap.size w' u2 ws ∧ Below w.heap.size w w' :=
  (specCopyO_cap v1 v2 ss ws w hv1 hv2 h1 h2).mono fun _ _ ⟨u1, u2, a, b, c, d, _⟩ => ⟨u1, u2, a, b, c, d⟩

end Go.Proofs.YtjclpbaiiklhcaaGreatDoor.Disk
