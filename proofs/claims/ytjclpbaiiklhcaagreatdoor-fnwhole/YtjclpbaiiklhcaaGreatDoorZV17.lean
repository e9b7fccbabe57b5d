import Derived.Test.YtjclpbaiiklhcaaGreatDoorZSpecScr
import Derived.Test.YtjclpbaiiklhcaaGreatDoorZV10
import Derived.Test.YtjclpbaiiklhcaaGreatDoorZV8
import Derived.Test.YtjclpbaiiklhcaaGreatDoorZV15
import Derived.Test.YtjclpbaiiklhcaaGreatDoorZV5
import Derived.Test.YtjclpbaiiklhcaaGreatDoorZDBase
/- The writes of a commit fit a disk, and what a disk is once they are done. -/
namespace Go.Proofs.YtjclpbaiiklhcaaGreatDoor
open Go.RowKit

theorem itoa_sz (v : Int) (k : Nat) (h0 : 0 ≤ v) (h : v.toNat < 10 ^ (k + 1)) : (itoaB v).size ≤ k + 1 := by
  show (Lib.itoa v).toArray.size ≤ k + 1
  rw [List.size_toArray]
  unfold Lib.itoa
  rw [if_neg (by omega)]
  exact dec_len k v.toNat h
theorem packT_fit (n e : Int) (b : ByteArray) : (packT n e b).size ≤ 256 := by
  unfold packT
  split
  · rename_i h
    obtain ⟨r1, r2, r3, r4, r5⟩ := pgOk_range h
    obtain ⟨c1, c2⟩ := crcS_range (headS n e ++ b)
    have s1 := itoa_sz n 1 (by omega) (by omega)
    have s2 := itoa_sz e 8 (by omega) (by omega)
    have s3 := itoa_sz (crcS (headS n e ++ b)) 9 (by omega) (by omega)
    have e1 : semi.size = 1 := rfl
    have e2 : (⟨#[80]⟩ : ByteArray).size = 1 := rfl
    unfold packS
    rw [ByteArray.size_append, ByteArray.size_append, ByteArray.size_append, ByteArray.size_append]
    have : (headS n e).size ≤ 13 := by
      unfold headS
      rw [ByteArray.size_append, ByteArray.size_append, ByteArray.size_append]
      omega
    omega
  · exact Nat.zero_le _
theorem supL_fit : ∀ (l : List Int) (acc : ByteArray), (∀ x ∈ l, 2 ≤ x ∧ x ≤ 63) → (supL acc l).size ≤ acc.size + 3 * l.length
  | [], acc, _ => by show acc.size ≤ acc.size + 0; omega
  | x :: l, acc, h => by
    have h1 := supL_fit l (acc ++ itoaB x ++ semi) (fun y hy => h y (List.mem_cons_of_mem _ hy))
    have hx := h x (List.mem_cons_self ..)
    have s1 := itoa_sz x 1 (by omega) (by omega)
    have e1 : semi.size = 1 := rfl
    rw [ByteArray.size_append, ByteArray.size_append] at h1
    show (supL (acc ++ itoaB x ++ semi) l).size ≤ _
    rw [List.length_cons]
    omega
theorem supT_fit (e : Int) (l : List Int) : (supT e l).size ≤ 256 := by
  cases h : supOk e l
  · rw [supT_no h]; exact Nat.zero_le _
  · rw [supT_yes h]
    obtain ⟨p1, p2, p3, _⟩ := supOk_parts h
    have m := supL_fit l (supHead e l.length) (supOk_mem h)
    obtain ⟨c1, c2⟩ := crcS_range (supS e l)
    have s1 := itoa_sz (crcS (supS e l)) 9 (by omega) (by omega)
    have s2 := itoa_sz e 8 (by omega) (by omega)
    have s3 := itoa_sz (l.length : Int) 1 (by omega) (by omega)
    have e1 : semi.size = 1 := rfl
    have e2 : (⟨#[83]⟩ : ByteArray).size = 1 := rfl
    have hh : (supHead e l.length).size ≤ 14 := by
      unfold supHead
      rw [ByteArray.size_append, ByteArray.size_append, ByteArray.size_append, ByteArray.size_append]
      omega
    rw [ByteArray.size_append]
    unfold supS at *
    omega
theorem okW_mk {x : Int} {t : ByteArray} (h0 : 0 ≤ x) (h1 : x ≤ 63) (h2 : t.size ≤ 256) : Disk.okW (x, t) = true := by
  unfold Disk.okW
  exact decide_eq_true ⟨h0, h1, h2⟩
theorem scrK_okW (l : List Int) (old bs : List ByteArray) (e1 : Int) (hl : l.length ≤ 30) : ∀ k, k ≤ 31 → ∀ x ∈ (scrK l old bs e1 k).1, Disk.okW x = true
  | 0, _ => fun x hx => by cases hx
  | k + 1, hk => fun x hx => by
    have ih := scrK_okW l old bs e1 hl k (by omega)
    cases h : sameB old bs k
    · rw [scr_new h] at hx
      rcases List.mem_append.1 hx with hx | hx
      · exact ih x hx
      · rw [List.mem_singleton.1 hx]
        have := (scr_len l old bs e1 k).2
        have fl := freeL_length l
        obtain ⟨r1, r2, _⟩ := freeL_range l (j := (scrK l old bs e1 k).1.length) (by omega)
        exact okW_mk (by omega) r2 (packT_fit _ _ _)
    · rw [scr_same h] at hx
      exact ih x hx
theorem scrW_okW (ss bs : List ByteArray) (hb : bs.length ≤ 30) : ∀ x ∈ scrW ss bs, Disk.okW x = true := fun x hx => by
  unfold scrW at hx
  rcases List.mem_append.1 hx with hx | hx
  · exact scrK_okW _ _ _ _ (newR_ok ss).2 _ (by omega) x hx
  · rw [List.mem_singleton.1 hx]
    exact okW_mk (by omega) (by omega) (supT_fit _ _)
theorem at_okW {ws : List Disk.Wr} (h : ∀ x ∈ ws, Disk.okW x = true) {k : Nat} (hk : k < ws.length) : Disk.okW (ws.getD k Disk.wr0) = true := by
  rw [List.getD_eq_getElem?_getD, List.getElem?_eq_getElem hk]
  exact h _ (List.getElem_mem hk)
/-- The disk's sectors with some writes done, in order. -/
def doneS (ss : List ByteArray) (ws : List Disk.Wr) : List ByteArray := ws.foldl Disk.stepH ss
theorem fit_set {ss : List ByteArray} {i : Nat} {t : ByteArray} (h : ∀ s ∈ ss, s.size ≤ 256) (ht : t.size ≤ 256) : ∀ s ∈ ss.set i t, s.size ≤ 256 := fun s hs => by
  rcases List.mem_or_eq_of_mem_set hs with h' | h'
  · exact h s h'
  · rw [h']; exact ht
theorem fit_done : ∀ (ws : List Disk.Wr) (ss : List ByteArray), (∀ s ∈ ss, s.size ≤ 256) → (∀ x ∈ ws, Disk.okW x = true) → ∀ s ∈ doneS ss ws, s.size ≤ 256
  | [], _, h, _ => h
  | x :: ws, ss, h, hw => fit_done ws (Disk.stepH ss x) (fit_set h (Disk.okW_range (hw x (List.mem_cons_self ..))).2.2) (fun y hy => hw y (List.mem_cons_of_mem _ hy))
theorem okD_fit {ss : List ByteArray} {ws : List Disk.Wr} (h : Disk.okD ss ws = true) : ∀ s ∈ ss, s.size ≤ 256 := fun s hs => by
  obtain ⟨_, _, h3, _⟩ := Disk.okD_all h
  obtain ⟨i, hi, e⟩ := List.mem_iff_getElem.1 hs
  have := h3 i hi
  rw [List.getD_eq_getElem?_getD, List.getElem?_eq_getElem hi] at this
  rw [← e]
  exact this
theorem okD_mk {ss : List ByteArray} {ws : List Disk.Wr} (h1 : ss.length = 64) (h2 : ws.length ≤ 200) (h3 : ∀ s ∈ ss, s.size ≤ 256) (h4 : ∀ x ∈ ws, Disk.okW x = true) : Disk.okD ss ws = true :=
  Disk.okD_yes h1 h2 (fun k hk => by rw [List.getD_eq_getElem?_getD, List.getElem?_eq_getElem hk]; exact h3 _ (List.getElem_mem hk)) (fun k hk => at_okW h4 hk)
theorem doneS_length (ss : List ByteArray) (ws : List Disk.Wr) : (doneS ss ws).length = ss.length := Disk.foldH_length _ _
theorem okD_len64 {ss : List ByteArray} {ws : List Disk.Wr} (h : Disk.okD ss ws = true) : ss.length = 64 := (Disk.okD_all h).1
theorem hold_done {ss : List ByteArray} {ws : List Disk.Wr} (h : Disk.okD ss ws = true) : Disk.holdS ss ws = doneS ss ws := by
  unfold Disk.holdS
  rw [if_pos h]
  unfold Disk.holdN doneS
  rw [List.take_length]
/-- Other late writes in place of a right disk's own. -/
theorem okD_late' {ss : List ByteArray} {ws us : List Disk.Wr} (h : Disk.okD ss ws = true) (hl : us.length ≤ 200) (hu : ∀ x ∈ us, Disk.okW x = true) : Disk.okD ss us = true := okD_mk (okD_len64 h) hl (okD_fit h) hu
theorem okD_done {ss : List ByteArray} {ws us ts : List Disk.Wr} (h : Disk.okD ss ws = true) (hl : us.length ≤ 200) (hu : ∀ x ∈ us, Disk.okW x = true) (ht : ∀ x ∈ ts, Disk.okW x = true) : Disk.okD (doneS ss ts) us = true :=
  okD_mk (by rw [doneS_length]; exact okD_len64 h) hl (fit_done ts ss (okD_fit h) ht) hu
theorem done_split (ss : List ByteArray) (ws : List Disk.Wr) (p : Nat) : doneS (doneS ss (ws.take p)) (ws.drop p) = doneS ss ws := by
  unfold doneS
  rw [← List.foldl_append, List.take_append_drop]

def commitS (ss : List ByteArray) (ws : List Disk.Wr) (bs : List ByteArray) : List ByteArray := if scrOk ss ws bs = true then doneS ss (scrW ss bs) else []
theorem commitS_no {ss : List ByteArray} {ws : List Disk.Wr} {bs : List ByteArray} (h : scrOk ss ws bs = false) : commitS ss ws bs = [] := by unfold commitS; rw [if_neg (by rw [h]; simp)]
theorem commitS_yes {ss : List ByteArray} {ws : List Disk.Wr} {bs : List ByteArray} (h : scrOk ss ws bs = true) : commitS ss ws bs = doneS ss (scrW ss bs) := by unfold commitS; rw [if_pos h]
/-- The pages held, the superblock late. -/
theorem super_okD {ss : List ByteArray} {ws : List Disk.Wr} {bs : List ByteArray} (h : scrOk ss ws bs = true) (p : Nat) : Disk.okD ss ((scrW ss bs).take p) = true ∧ Disk.okD (doneS ss ((scrW ss bs).take p)) ((scrW ss bs).drop p) = true := by
  obtain ⟨o1, o2, _, _⟩ := scrOk_parts h
  have hw := scrW_okW ss bs o2
  have hl := (scrW_length ss bs).2
  have t : ∀ x ∈ (scrW ss bs).take p, Disk.okW x = true := fun x hx => hw x (List.mem_of_mem_take hx)
  exact ⟨okD_late' o1 (by rw [List.length_take]; omega) t, okD_done o1 (by rw [List.length_drop]; omega) (fun x hx => hw x (List.mem_of_mem_drop hx)) t⟩

end Go.Proofs.YtjclpbaiiklhcaaGreatDoor

/- A disk that holds a superblock and its pages reads as that superblock; with a page damaged, as none. -/
namespace Go.Proofs.YtjclpbaiiklhcaaGreatDoor
open Go.RowKit

def bodyT : ByteArray := ⟨#[98, 111, 100, 121]⟩
def dmgT : ByteArray := ⟨#[100, 97, 109, 97, 103, 101, 100]⟩
def pgN (e : Int) (i : Nat) : ByteArray := packT i (e - e / 2) bodyT
def dkL (e : Int) (l : List Int) : Nat → List ByteArray
  | 0 => Disk.es64
  | k + 1 => (dkL e l k).set (l.getD k 0).toNat (pgN e k)
def dkS (e : Int) (l : List Int) : List ByteArray := (dkL e l l.length).set (e % 2).toNat (supT e l)

theorem dkL_len (e : Int) (l : List Int) : ∀ k, (dkL e l k).length = 64
  | 0 => List.length_replicate ..
  | k + 1 => by rw [dkL, List.length_set]; exact dkL_len e l k
theorem dkL_fit (e : Int) (l : List Int) : ∀ k, ∀ s ∈ dkL e l k, s.size ≤ 256
  | 0 => fun s hs => by
    obtain ⟨_, rfl⟩ := List.mem_replicate.1 hs
    exact Nat.zero_le _
  | k + 1 => fit_set (dkL_fit e l k) (packT_fit _ _ _)
theorem dkS_len (e : Int) (l : List Int) : (dkS e l).length = 64 := by unfold dkS; rw [List.length_set]; exact dkL_len _ _ _
theorem dkS_fit (e : Int) (l : List Int) : ∀ s ∈ dkS e l, s.size ≤ 256 := fit_set (dkL_fit e l _) (supT_fit _ _)
theorem getD_set_ne {ss : List ByteArray} {i j : Nat} {t : ByteArray} (h : i ≠ j) : (ss.set i t).getD j ByteArray.empty = ss.getD j ByteArray.empty := by
  rw [List.getD_eq_getElem?_getD, List.getElem?_set_ne h, ← List.getD_eq_getElem?_getD]
theorem getD_set_self {ss : List ByteArray} {i : Nat} {t : ByteArray} (h : i < ss.length) : (ss.set i t).getD i ByteArray.empty = t := by
  rw [List.getD_eq_getElem?_getD, List.getElem?_set_self h]
  rfl
theorem dkL_low (e : Int) (l : List Int) (j : Nat) (hj : j < 2) : ∀ k, (∀ i, i < k → 2 ≤ l.getD i 0) → (dkL e l k).getD j ByteArray.empty = ByteArray.empty
  | 0, _ => by
    show (List.replicate 64 ByteArray.empty).getD j ByteArray.empty = ByteArray.empty
    rw [List.getD_eq_getElem?_getD, List.getElem?_replicate]
    split <;> rfl
  | k + 1, h => by
    have := h k (Nat.lt_succ_self _)
    rw [dkL, getD_set_ne (by omega)]
    exact dkL_low e l j hj k (fun i hi => h i (Nat.lt_succ_of_lt hi))
theorem row_ne {l : List Int} {i k : Nat} (h : goodAt l k = true) (hi : i < k) (hk : k < l.length) : l.getD i 0 ≠ l.getD k 0 := by
  intro e
  unfold goodAt at h
  rw [Bool.and_eq_true] at h
  have h2 := h.2
  rw [Bool.not_eq_true'] at h2
  have : l.getD k 0 ∈ l.take k := by
    rw [← e, List.getD_eq_getElem?_getD, List.getElem?_eq_getElem (by omega)]
    exact List.mem_take_iff_getElem.2 ⟨i, by omega, rfl⟩
  rw [List.contains_iff_mem.2 this] at h2
  cases h2
theorem dkL_at (e : Int) (l : List Int) (i : Nat) : ∀ k, rowOk l k = true → k ≤ l.length → i < k → (dkL e l k).getD (l.getD i 0).toNat ByteArray.empty = pgN e i
  | 0, _, _, hi => absurd hi (Nat.not_lt_zero _)
  | k + 1, h, hk, hi => by
    have gk := rowOk_mem h k (Nat.lt_succ_self _)
    have rk := goodAt_range gk
    by_cases e1 : i = k
    · subst e1
      rw [dkL, getD_set_self (by rw [dkL_len]; omega)]
    · have gi := goodAt_range (rowOk_mem h i hi)
      have ne := row_ne gk (by omega : i < k) (by omega)
      rw [rowOk_succ, Bool.and_eq_true] at h
      rw [dkL, getD_set_ne (by omega)]
      exact dkL_at e l i k h.1 (by omega) (by omega)
theorem pgOk_body {e : Int} {i : Nat} (h0 : 1 ≤ e) (h1 : e ≤ 999999999) (hi : i < 30) : pgOk i (e - e / 2) bodyT = true := by
  unfold pgOk
  rw [decide_eq_true (by omega), decide_eq_true (by omega), decide_eq_true (by decide)]
  rfl
theorem open_pg {e : Int} {i : Nat} (h0 : 1 ≤ e) (h1 : e ≤ 999999999) (hi : i < 30) : openR (pgN e i) = ((i : Int), e - e / 2, bodyT, 0) := by
  have h := pgOk_body h0 h1 hi
  unfold pgN packT
  rw [if_pos h]
  exact open_pack _ _ _ h
theorem open_dmg : (openR dmgT).2.2.2 ≠ 0 := by
  have h : formN dmgT.data.toList = none := by
    unfold formN
    rw [if_neg (by decide)]
  unfold openR
  rw [if_neg (by decide), h]
  decide
theorem supR_empty : supR ByteArray.empty = none := supR_head (by decide)
theorem sups_sound {e : Int} {l : List Int} (h : supOk e l = true) : soundB (dkS e l) e l l.length = true := by
  obtain ⟨p1, p2, p3, p4⟩ := supOk_parts h
  unfold soundB
  rw [List.all_eq_true]
  intro i hi
  have hi' := List.mem_range.1 hi
  have gi := goodAt_range (rowOk_mem p4 i hi')
  have pa : pageAt (dkS e l) l i = ((i : Int), e - e / 2, bodyT, 0) := by
    unfold pageAt dkS
    rw [getD_set_ne (by omega), dkL_at e l i l.length p4 (Nat.le_refl _) hi']
    exact open_pg p1 p2 (by omega)
  unfold soundAt
  rw [pa]
  simp
  omega
theorem newR_dk {e : Int} {l : List Int} (h : supOk e l = true) : newR (dkS e l) = (e, l) := by
  obtain ⟨p1, p2, p3, p4⟩ := supOk_parts h
  have hlow : ∀ i, i < l.length → 2 ≤ l.getD i 0 := fun i hi => (goodAt_range (rowOk_mem p4 i hi)).1
  have S1 : orNone (superR (dkS e l) (supT e l)) = (e, l) := by
    unfold superR
    rw [supR_supT h]
    show orNone (if soundB (dkS e l) e l l.length = true then some (e, l) else none) = (e, l)
    rw [if_pos (sups_sound h)]
    rfl
  have S0 : orNone (superR (dkS e l) ByteArray.empty) = (0, []) := by
    unfold superR
    rw [supR_empty]
    rfl
  have hm : e % 2 = 0 ∨ e % 2 = 1 := by omega
  unfold newR
  rcases hm with hm | hm
  · have t0 : textAt (dkS e l) 0 = supT e l := by
      unfold textAt dkS
      rw [hm]
      exact getD_set_self (by rw [dkL_len]; decide)
    have t1 : textAt (dkS e l) 1 = ByteArray.empty := by
      unfold textAt dkS
      rw [hm, getD_set_ne (by decide)]
      exact dkL_low e l 1 (by omega) _ hlow
    rw [t0, t1, S0, S1, if_neg (by simp; omega)]
  · have t1 : textAt (dkS e l) 1 = supT e l := by
      unfold textAt dkS
      rw [hm]
      exact getD_set_self (by rw [dkL_len]; decide)
    have t0 : textAt (dkS e l) 0 = ByteArray.empty := by
      unfold textAt dkS
      rw [hm, getD_set_ne (by decide)]
      exact dkL_low e l 0 (by omega) _ hlow
    rw [t0, t1, S0, S1, if_pos (by simp; omega)]
theorem newestR_dk {e : Int} {l : List Int} (h : supOk e l = true) : newestR (dkS e l) [] = (e, l) := by
  unfold newestR
  rw [if_pos (okD_mk (dkS_len e l) (by simp) (dkS_fit e l) (fun x hx => by cases hx))]
  exact newR_dk h
theorem newestR_dmg {e : Int} {l : List Int} (h : supOk e l = true) (p : Nat) (hp : p < l.length) : (newestR ((dkS e l).set (l.getD p 0).toNat dmgT) []).1 = 0 := by
  obtain ⟨p1, p2, p3, p4⟩ := supOk_parts h
  have hlow : ∀ i, i < l.length → 2 ≤ l.getD i 0 := fun i hi => (goodAt_range (rowOk_mem p4 i hi)).1
  have gp := goodAt_range (rowOk_mem p4 p hp)
  have S1 : orNone (superR ((dkS e l).set (l.getD p 0).toNat dmgT) (supT e l)) = (0, []) := by
    have ns : soundAt ((dkS e l).set (l.getD p 0).toNat dmgT) e l p = false := by
      have pa : pageAt ((dkS e l).set (l.getD p 0).toNat dmgT) l p = openR dmgT := by
        unfold pageAt
        rw [getD_set_self (by rw [dkS_len]; omega)]
      unfold soundAt
      rw [pa, decide_eq_false open_dmg]
      rfl
    unfold superR
    rw [supR_supT h]
    show orNone (if soundB ((dkS e l).set (l.getD p 0).toNat dmgT) e l l.length = true then some (e, l) else none) = (0, [])
    rw [if_neg (by rw [soundB_false ns hp]; decide)]
    rfl
  have S0 : orNone (superR ((dkS e l).set (l.getD p 0).toNat dmgT) ByteArray.empty) = (0, []) := by
    unfold superR
    rw [supR_empty]
    rfl
  have hm : e % 2 = 0 ∨ e % 2 = 1 := by omega
  unfold newestR
  rw [if_pos (okD_mk (by rw [List.length_set]; exact dkS_len e l) (by simp) (fit_set (dkS_fit e l) (by decide)) (fun x hx => by cases hx))]
  unfold newR
  rcases hm with hm | hm
  · have t0 : textAt ((dkS e l).set (l.getD p 0).toNat dmgT) 0 = supT e l := by
      unfold textAt
      rw [getD_set_ne (by omega)]
      unfold dkS
      rw [hm]
      exact getD_set_self (by rw [dkL_len]; decide)
    have t1 : textAt ((dkS e l).set (l.getD p 0).toNat dmgT) 1 = ByteArray.empty := by
      unfold textAt
      rw [getD_set_ne (by omega)]
      unfold dkS
      rw [hm, getD_set_ne (by decide)]
      exact dkL_low e l 1 (by omega) _ hlow
    rw [t0, t1, S0, S1]
    rfl
  · have t1 : textAt ((dkS e l).set (l.getD p 0).toNat dmgT) 1 = supT e l := by
      unfold textAt
      rw [getD_set_ne (by omega)]
      unfold dkS
      rw [hm]
      exact getD_set_self (by rw [dkL_len]; decide)
    have t0 : textAt ((dkS e l).set (l.getD p 0).toNat dmgT) 0 = ByteArray.empty := by
      unfold textAt
      rw [getD_set_ne (by omega)]
      unfold dkS
      rw [hm, getD_set_ne (by decide)]
      exact dkL_low e l 0 (by omega) _ hlow
    rw [t0, t1, S0, S1]
    rfl

end Go.Proofs.YtjclpbaiiklhcaaGreatDoor

/- After a commit the newest superblock is the commit's own, and the pages read as the bodies that were handed in. -/
namespace Go.Proofs.YtjclpbaiiklhcaaGreatDoor
open Go.RowKit

theorem done_snoc (ss : List ByteArray) (ws : List Disk.Wr) (x : Disk.Wr) : doneS ss (ws ++ [x]) = (doneS ss ws).set x.1.toNat x.2 := by
  unfold doneS
  rw [List.foldl_append]
  rfl
/-- A sector that no write names stays. -/
theorem done_off (ws : List Disk.Wr) (j : Nat) : ∀ (ss : List ByteArray), (∀ x ∈ ws, x.1.toNat ≠ j) → (doneS ss ws).getD j ByteArray.empty = ss.getD j ByteArray.empty := by
  induction ws with
  | nil => intro ss _; rfl
  | cons x ws ih =>
    intro ss h
    show (doneS (ss.set x.1.toNat x.2) ws).getD j ByteArray.empty = _
    rw [ih _ (fun y hy => h y (List.mem_cons_of_mem _ hy)), getD_set_ne (h x (List.mem_cons_self ..))]
/-- The writes of the pages name free sectors, in their order. -/
theorem scr_free (l : List Int) (old bs : List ByteArray) (e1 : Int) : ∀ k, ∀ x ∈ (scrK l old bs e1 k).1, x.1 ∈ (freeL l).take (scrK l old bs e1 k).1.length ∨ (freeL l).length ≤ (scrK l old bs e1 k).1.length
  | 0 => fun x hx => by cases hx
  | k + 1 => fun x hx => by
    cases h : sameB old bs k
    · rw [scr_new h] at hx ⊢
      simp only [List.length_append, List.length_cons, List.length_nil, Nat.zero_add] at hx ⊢
      by_cases hl : (freeL l).length ≤ (scrK l old bs e1 k).1.length
      · exact .inr (by omega)
      · rcases List.mem_append.1 hx with hx | hx
        · rcases scr_free l old bs e1 k x hx with h1 | h1
          · exact .inl (List.mem_of_mem_take (i := (scrK l old bs e1 k).1.length) (by rw [List.take_take, Nat.min_eq_left (Nat.le_succ _)]; exact h1))
          · exact absurd h1 hl
        · rw [List.mem_singleton.1 hx]
          exact .inl (take_mem (by omega) (by omega))
    · rw [scr_same h] at hx ⊢
      exact scr_free l old bs e1 k x hx
theorem scr_room (l : List Int) (old bs : List ByteArray) (e1 : Int) (hl : l.length ≤ 30) (k : Nat) (hk : k ≤ 31) : (scrK l old bs e1 k).1.length < (freeL l).length := by
  have := freeL_length l
  have := (scr_len l old bs e1 k).2
  omega
theorem newR_le (ss : List ByteArray) : (newR ss).1 ≤ lastE ss := by
  have h0 := lastE_range ss
  rcases newR_super ss with h | ⟨t, ht, h⟩
  · rw [h]; exact h0.1
  · obtain ⟨_, h2, _⟩ := superR_pos (e := (newR ss).1) (l := (newR ss).2) h
    have e : (orNone (supR t)).1 = (newR ss).1 := by rw [h2]; rfl
    unfold lastE
    rcases ht with rfl | rfl <;> omega
/-- Page i of the newest superblock. -/
theorem newR_page (ss : List ByteArray) (i : Nat) (hi : i < (newR ss).2.length) : ∃ E, openR (ss.getD ((newR ss).2.getD i 0).toNat ByteArray.empty) = ((i : Int), E, (oldB ss).getD i ByteArray.empty, 0) ∧ E ≤ lastE ss := by
  have hb : (oldB ss).getD i ByteArray.empty = (pageAt ss (newR ss).2 i).2.2.1 := by
    unfold oldB bodiesK
    rw [List.getD_eq_getElem?_getD, List.getElem?_map, List.getElem?_range hi]
    rfl
  have hle := newR_le ss
  rcases newR_super ss with h | ⟨t, _, h⟩
  · rw [h] at hi; exact absurd hi (Nat.not_lt_zero _)
  · obtain ⟨_, _, h3⟩ := superR_pos (e := (newR ss).1) (l := (newR ss).2) h
    have s := List.all_eq_true.1 h3 i (List.mem_range.2 hi)
    unfold soundAt at s
    rw [Bool.and_eq_true, Bool.and_eq_true] at s
    have s1 := of_decide_eq_true s.1.1
    have s2 := of_decide_eq_true s.1.2
    have s3 := of_decide_eq_true s.2
    refine ⟨(pageAt ss (newR ss).2 i).2.1, ?_, by omega⟩
    rw [hb]
    show pageAt ss (newR ss).2 i = _
    generalize pageAt ss (newR ss).2 i = p at *
    obtain ⟨p1, p2, p3, p4⟩ := p
    simp only at s1 s2
    rw [s1, s2]

theorem pgOk_mk {n e : Int} {b : ByteArray} (h0 : 0 ≤ n) (h1 : n ≤ 29) (h2 : 0 ≤ e) (h3 : e ≤ 999999999) (h4 : b.size ≤ 200) : pgOk n e b = true := by
  unfold pgOk
  rw [decide_eq_true ⟨h0, h1⟩, decide_eq_true ⟨h2, h3⟩, decide_eq_true h4]
  rfl
theorem toNat_ne {a b : Int} (ha : 0 ≤ a) (hb : 0 ≤ b) (h : a ≠ b) : a.toNat ≠ b.toNat := by omega
theorem scr_off (ss bs : List ByteArray) (k : Nat) (hk : k ≤ 31) (y : Int) (hy : y ∈ (newR ss).2 ∨ y < 2) (y0 : 0 ≤ y) : ∀ x ∈ (scrP ss bs k).1, x.1.toNat ≠ y.toNat := fun x hx => by
  have room := scr_room (newR ss).2 (oldB ss) bs (lastE ss + 1) (newR_ok ss).2 k hk
  rcases scr_free (newR ss).2 (oldB ss) bs (lastE ss + 1) k x hx with h | h
  · have hm := (freeL_mem (newR ss).2 x.1).1 (List.mem_of_mem_take h)
    refine toNat_ne (by omega) y0 (fun e => ?_)
    rcases hy with hy | hy
    · exact hm.2 (e ▸ hy)
    · omega
  · omega
/-- After the page writes, each sector of the new list holds its page. -/
theorem scr_pages (ss bs : List ByteArray) (h64 : ss.length = 64) (hb : bs.length ≤ 30) (hf : fitB bs = true) (he : lastE ss ≤ 999999998) : ∀ k, k ≤ bs.length → ∀ i, i < k →
    ∃ E, openR ((doneS ss (scrP ss bs k).1).getD ((scrP ss bs k).2.getD i 0).toNat ByteArray.empty) = ((i : Int), E, bs.getD i ByteArray.empty, 0) ∧ E ≤ lastE ss + 1
  | 0, _, i, hi => absurd hi (Nat.not_lt_zero i)
  | k + 1, hk, i, hi => by
    have h0 := lastE_range ss
    obtain ⟨r1, r2⟩ := newR_ok ss
    have sl := scr_len (newR ss).2 (oldB ss) bs (lastE ss + 1) k
    have room := scr_room (newR ss).2 (oldB ss) bs (lastE ss + 1) r2 k (by omega)
    have inv := (scr_inv (newR ss).2 (oldB ss) bs (lastE ss + 1) r1 r2 (oldB_length ss) k (by omega)).2
    have ih := scr_pages ss bs h64 hb hf he k (by omega) i
    have off := scr_off ss bs k (by omega)
    cases h : sameB (oldB ss) bs k
    · have e : scrP ss bs (k + 1) = _ := scr_new h
      rw [e]
      by_cases hik : i < k
      · obtain ⟨E, hE, hE2⟩ := ih hik
        refine ⟨E, ?_, hE2⟩
        have fr := freeL_range (newR ss).2 room
        have ne : (scrK (newR ss).2 (oldB ss) bs (lastE ss + 1) k).2.getD i 0 ≠ (freeL (newR ss).2).getD (scrK (newR ss).2 (oldB ss) bs (lastE ss + 1) k).1.length 0 := fun hh => by
          rcases inv i hik with ⟨a, b⟩ | a
          · exact fr.2.2 (by rw [← hh, b]; exact at_mem a)
          · exact freeL_new (newR ss).2 room (by rw [← hh]; exact a)
        have pos : 0 ≤ (scrK (newR ss).2 (oldB ss) bs (lastE ss + 1) k).2.getD i 0 := by
          have ro := (scr_inv (newR ss).2 (oldB ss) bs (lastE ss + 1) r1 r2 (oldB_length ss) k (by omega)).1
          have := (rowOk_at ro hik).1
          omega
        show openR ((doneS ss (_ ++ [_])).getD (((_ : List Int) ++ [_]).getD i 0).toNat ByteArray.empty) = _
        rw [snoc_at (by rw [sl.1]; exact hik), done_snoc, getD_set_ne (fun hh => toNat_ne pos (by omega) ne hh.symm)]
        exact hE
      · obtain rfl : i = k := by omega
        have fr := freeL_range (newR ss).2 room
        refine ⟨lastE ss + 1, ?_, Int.le_refl _⟩
        have pk := pgOk_mk (n := (i : Int)) (e := lastE ss + 1) (b := bs.getD i ByteArray.empty) (by omega) (by omega) (by omega) (by omega) (fitB_at hf (by omega))
        show openR ((doneS ss (_ ++ [_])).getD (((_ : List Int) ++ [_]).getD i 0).toNat ByteArray.empty) = _
        have sn : ((scrK (newR ss).2 (oldB ss) bs (lastE ss + 1) i).2 ++ [(freeL (newR ss).2).getD (scrK (newR ss).2 (oldB ss) bs (lastE ss + 1) i).1.length 0]).getD i 0 = (freeL (newR ss).2).getD (scrK (newR ss).2 (oldB ss) bs (lastE ss + 1) i).1.length 0 := by
          have := snoc_last (l := (scrK (newR ss).2 (oldB ss) bs (lastE ss + 1) i).2) (y := (freeL (newR ss).2).getD (scrK (newR ss).2 (oldB ss) bs (lastE ss + 1) i).1.length 0)
          rw [sl.1] at this
          exact this
        rw [sn, done_snoc, getD_set_self (by rw [doneS_length, h64]; show ((freeL (newR ss).2).getD _ 0).toNat < 64; omega)]
        show openR (packT i (lastE ss + 1) (bs.getD i ByteArray.empty)) = _
        unfold packT
        rw [if_pos pk]
        exact open_pack _ _ _ pk
    · have e : scrP ss bs (k + 1) = _ := scr_same h
      rw [e]
      by_cases hik : i < k
      · obtain ⟨E, hE, hE2⟩ := ih hik
        refine ⟨E, ?_, hE2⟩
        show openR ((doneS ss _).getD (((_ : List Int) ++ [_]).getD i 0).toNat ByteArray.empty) = _
        rw [snoc_at (by rw [sl.1]; exact hik)]
        exact hE
      · obtain rfl : i = k := by omega
        unfold sameB at h
        rw [Bool.and_eq_true] at h
        have hl := of_decide_eq_true h.1
        have hq := of_decide_eq_true h.2
        rw [oldB_length] at hl
        obtain ⟨E, hE, hE2⟩ := newR_page ss i hl
        refine ⟨E, ?_, by omega⟩
        have sn : ((scrK (newR ss).2 (oldB ss) bs (lastE ss + 1) i).2 ++ [(newR ss).2.getD i 0]).getD i 0 = (newR ss).2.getD i 0 := by
          have := snoc_last (l := (scrK (newR ss).2 (oldB ss) bs (lastE ss + 1) i).2) (y := (newR ss).2.getD i 0)
          rw [sl.1] at this
          exact this
        have gi := goodAt_range (rowOk_mem r1 i hl)
        show openR ((doneS ss _).getD (((_ : List Int) ++ [_]).getD i 0).toNat ByteArray.empty) = _
        rw [sn]
        show openR ((doneS ss (scrP ss bs i).1).getD ((newR ss).2.getD i 0).toNat ByteArray.empty) = _
        rw [done_off _ _ _ (off _ (.inl (at_mem hl)) (by omega)), hE, hq]

theorem scrW_done (ss bs : List ByteArray) : doneS ss (scrW ss bs) = (doneS ss (scrP ss bs bs.length).1).set ((lastE ss + 1) % 2).toNat (supT (lastE ss + 1) (scrP ss bs bs.length).2) := by
  unfold scrW
  rw [done_snoc]
theorem scrP_len (ss bs : List ByteArray) : (scrP ss bs bs.length).2.length = bs.length := (scr_len _ _ _ _ _).1
theorem commit_page {ss bs : List ByteArray} {ws : List Disk.Wr} (h : scrOk ss ws bs = true) (i : Nat) (hi : i < bs.length) :
    ∃ E, pageAt (doneS ss (scrW ss bs)) (scrP ss bs bs.length).2 i = ((i : Int), E, bs.getD i ByteArray.empty, 0) ∧ E ≤ lastE ss + 1 := by
  obtain ⟨o1, o2, o3, o4⟩ := scrOk_parts h
  have h0 := lastE_range ss
  obtain ⟨E, hE, hE2⟩ := scr_pages ss bs (okD_len64 o1) o2 o3 o4 bs.length (Nat.le_refl _) i hi
  have so := supOk_parts (scrP_ok ss bs o2 o4)
  have g := goodAt_range (rowOk_mem so.2.2.2 i (by rw [scrP_len]; exact hi))
  refine ⟨E, ?_, hE2⟩
  unfold pageAt
  rw [scrW_done, getD_set_ne (by omega)]
  exact hE
theorem commit_other {ss bs : List ByteArray} {ws : List Disk.Wr} (h : scrOk ss ws bs = true) (j : Nat) (hj : j < 2) (hne : ((lastE ss + 1) % 2).toNat ≠ j) : textAt (doneS ss (scrW ss bs)) j = textAt ss j := by
  obtain ⟨o1, o2, o3, o4⟩ := scrOk_parts h
  unfold textAt
  rw [scrW_done, getD_set_ne hne]
  refine done_off _ _ _ (fun x hx => ?_)
  have := scr_off ss bs bs.length (by omega) (j : Int) (.inr (by omega)) (by omega) x hx
  rwa [Int.toNat_natCast] at this
theorem orSuper_le (ss : List ByteArray) (t : ByteArray) : (orNone (superR ss t)).1 ≤ (orNone (supR t)).1 := by
  rw [superR_or]
  split
  · exact Int.le_refl _
  · exact (or_epoch t).1
/-- The newest superblock behind a commit. -/
theorem newR_commit {ss bs : List ByteArray} {ws : List Disk.Wr} (h : scrOk ss ws bs = true) : newR (doneS ss (scrW ss bs)) = (lastE ss + 1, (scrP ss bs bs.length).2) := by
  obtain ⟨o1, o2, o3, o4⟩ := scrOk_parts h
  have h0 := lastE_range ss
  have ok := scrP_ok ss bs o2 o4
  have snd : soundB (doneS ss (scrW ss bs)) (lastE ss + 1) (scrP ss bs bs.length).2 (scrP ss bs bs.length).2.length = true := by
    unfold soundB
    rw [List.all_eq_true]
    intro i hi
    have hi' := List.mem_range.1 hi
    rw [scrP_len] at hi'
    obtain ⟨E, hE, hE2⟩ := commit_page h i hi'
    unfold soundAt
    rw [hE]
    simp
    exact hE2
  have S1 : orNone (superR (doneS ss (scrW ss bs)) (supT (lastE ss + 1) (scrP ss bs bs.length).2)) = (lastE ss + 1, (scrP ss bs bs.length).2) := by
    unfold superR
    rw [supR_supT ok]
    show orNone (if soundB (doneS ss (scrW ss bs)) (lastE ss + 1) (scrP ss bs bs.length).2 (scrP ss bs bs.length).2.length = true then some (lastE ss + 1, (scrP ss bs bs.length).2) else none) = _
    rw [if_pos snd]
    rfl
  have tx : textAt (doneS ss (scrW ss bs)) ((lastE ss + 1) % 2).toNat = supT (lastE ss + 1) (scrP ss bs bs.length).2 := by
    unfold textAt
    rw [scrW_done]
    exact getD_set_self (by rw [doneS_length, okD_len64 o1]; omega)
  have l0 : (orNone (supR (textAt ss 0))).1 ≤ lastE ss := by unfold lastE; omega
  have l1 : (orNone (supR (textAt ss 1))).1 ≤ lastE ss := by unfold lastE; omega
  have hm : (lastE ss + 1) % 2 = 0 ∨ (lastE ss + 1) % 2 = 1 := by omega
  rcases hm with hm | hm
  · have t1 := commit_other h 1 (by omega) (by rw [hm]; decide)
    rw [hm] at tx
    have t0 : textAt (doneS ss (scrW ss bs)) 0 = supT (lastE ss + 1) (scrP ss bs bs.length).2 := tx
    have := orSuper_le (doneS ss (scrW ss bs)) (textAt ss 1)
    rw [newR_no (by rw [t0, t1, S1]; show ¬ lastE ss + 1 < _; omega), t0, S1]
  · have t0 := commit_other h 0 (by omega) (by rw [hm]; decide)
    rw [hm] at tx
    have t1 : textAt (doneS ss (scrW ss bs)) 1 = supT (lastE ss + 1) (scrP ss bs bs.length).2 := tx
    have := orSuper_le (doneS ss (scrW ss bs)) (textAt ss 0)
    rw [newR_yes (by rw [t0, t1, S1]; show _ < lastE ss + 1; omega), t1, S1]
theorem commit_okD {ss bs : List ByteArray} {ws : List Disk.Wr} (h : scrOk ss ws bs = true) : Disk.okD (doneS ss (scrW ss bs)) [] = true :=
  okD_done (scrOk_parts h).1 (by simp) (fun x hx => by cases hx) (scrW_okW ss bs (scrOk_parts h).2.1)
theorem newest_commit {ss bs : List ByteArray} {ws : List Disk.Wr} (h : scrOk ss ws bs = true) : newestR (doneS ss (scrW ss bs)) [] = (lastE ss + 1, (scrP ss bs bs.length).2) := by
  unfold newestR
  rw [if_pos (commit_okD h), newR_commit h]
theorem bodies_commit {ss bs : List ByteArray} {ws : List Disk.Wr} (h : scrOk ss ws bs = true) : bodiesK (doneS ss (scrW ss bs)) (scrP ss bs bs.length).2 (scrP ss bs bs.length).2.length = bs := by
  rw [scrP_len]
  apply List.ext_getElem?
  intro i
  unfold bodiesK
  rw [List.getElem?_map]
  by_cases hi : i < bs.length
  · obtain ⟨E, hE, _⟩ := commit_page h i hi
    rw [List.getElem?_range hi, Option.map_some, hE, List.getElem?_eq_getElem hi]
    simp [hi]
  · rw [List.getElem?_eq_none (by rw [List.length_range]; omega), List.getElem?_eq_none (by omega)]
    rfl
/-- The pages behind a commit are the bodies handed in. -/
theorem pages_commit {ss bs : List ByteArray} {ws : List Disk.Wr} (h : scrOk ss ws bs = true) : pagesR (doneS ss (scrW ss bs)) [] = bs := by
  unfold pagesR
  rw [newest_commit h]
  exact bodies_commit h
theorem newest_less {ss bs : List ByteArray} {ws : List Disk.Wr} (h : scrOk ss ws bs = true) : (newestR ss ws).1 < lastE ss + 1 := by
  unfold newestR
  rw [if_pos (scrOk_parts h).1]
  have := newR_le ss
  omega
theorem scr_all (l : List Int) (bs : List ByteArray) (e1 : Int) (hl : l.length = bs.length) : ∀ k, k ≤ bs.length → scrK l bs bs e1 k = ([], l.take k)
  | 0, _ => rfl
  | k + 1, hk => by
    have s : sameB bs bs k = true := by
      unfold sameB
      rw [decide_eq_true (by omega), decide_eq_true rfl]
      rfl
    rw [scr_same s, scr_all l bs e1 hl k (by omega), take_snoc_free (by omega)]
/-- The same bodies again: the superblock alone is written. -/
theorem script_again {ss bs : List ByteArray} {ws : List Disk.Wr} (h : scrOk ss ws bs = true) : (scrW (doneS ss (scrW ss bs)) bs).length = 1 := by
  have ho : oldB (doneS ss (scrW ss bs)) = bs := by
    unfold oldB
    rw [newR_commit h]
    exact bodies_commit h
  unfold scrW
  rw [List.length_append]
  have : (scrP (doneS ss (scrW ss bs)) bs bs.length).1 = [] := by
    unfold scrP
    rw [ho, newR_commit h]
    rw [scr_all _ _ _ (scrP_len ss bs) bs.length (Nat.le_refl _)]
  unfold scrW at this
  rw [this]
  rfl

end Go.Proofs.YtjclpbaiiklhcaaGreatDoor

/- Superblocks' texts and what becomes of them by two changes. -/
namespace Go.Proofs.YtjclpbaiiklhcaaGreatDoor
open Go.RowKit

/-- A text that tells no great epoch but the greatest. -/
def DPt (t : ByteArray) : Prop := ∀ e l, supR t = some (e, l) → e ≤ 99999998 ∨ e = 999999999
theorem dig_good {l : List UInt8} (h : l.all isDig = true) : l.countP badSign = 0 ∧ l.countP (· == 59) = 0 := by
  rw [List.countP_eq_zero, List.countP_eq_zero]
  have k := List.all_eq_true.1 h
  refine ⟨fun b hb => ?_, fun b hb => ?_⟩
  · have := k b hb
    unfold isDig at this
    unfold badSign
    rw [this]
    simp
  · have := itoa_digs (v := 0) (by omega)
    intro e
    have e2 : b = 59 := by simpa using e
    have k2 := k b hb
    rw [e2] at k2
    revert k2
    decide
theorem dp_of {t : ByteArray} (h : Inv 2 t.data.toList) : DPt t := by
  intro e l hs
  obtain ⟨hok, ht⟩ := supR_is hs
  have TL := supT_list hok
  rw [ht] at TL
  obtain ⟨h1, _⟩ := supOk_parts hok
  have hd := itoa_digs (v := e) (by omega)
  have hv := itoa_dsv (v := e) (by omega)
  generalize hR : (itoaB l.length).data.toList ++ 59 :: ((l.map fun x => (itoaB x).data.toList ++ [59]).flatten ++ (itoaB (crcS (supS e l))).data.toList) = R at TL
  generalize (itoaB e).data.toList = de at *
  by_cases h8 : de.length ≤ 7
  · left
    have := dsv_lt de hd
    have p : 10 ^ de.length ≤ 10 ^ 7 := Nat.pow_le_pow_right (by omega) h8
    omega
  exfalso
  have t9 : ∀ n, n ≤ 8 → t.data.toList.take (n + 1) = 83 :: de.take n := fun n hn => by
    rw [TL, List.take_succ_cons, List.take_append_of_le_length (by omega)]
  have hdt : ∀ n, (de.take n).all isDig = true := fun n => by
    rw [List.all_eq_true] at hd ⊢
    exact fun b hb => hd b (List.mem_of_mem_take hb)
  have s9 : sc 9 t.data.toList = 0 := by
    unfold sc
    rw [t9 8 (by omega), List.countP_cons, (dig_good (hdt 8)).2]
    decide
  rcases h with h | h | h | ⟨d, hd2, h, hc⟩
  · rw [TL] at h
    simp at h
    omega
  · omega
  · have b0 : bc t.data.toList = 0 := by
      unfold bc
      rw [t9 5 (by omega), List.countP_cons, (dig_good (hdt 5)).1]
      decide
    omega
  · have : sc (7 + 2) t.data.toList = 0 := s9
    have pos : 0 < t.data.toList.countP (· == 59) := by
      rw [List.countP_pos_iff]
      exact ⟨59, by rw [TL]; simp, by decide⟩
    omega
theorem dp_great : DPt (supT 999999999 []) := by
  intro e l hs
  right
  rw [supR_supT (show supOk 999999999 [] = true by decide)] at hs
  have := Option.some.inj hs
  exact (congrArg Prod.fst this).symm

/-- Empty, or a superblock's of an epoch that is small. -/
def OkE (m : Nat) (t : ByteArray) : Prop := t = ByteArray.empty ∨ ∃ e l, e ≤ (m : Int) ∧ supOk e l = true ∧ t = supT e l
def OkL (m : Nat) (ss : List ByteArray) : Prop := ∀ i, i < 2 → OkE m (textAt ss i)
theorem OkE.mono {m m' : Nat} {t : ByteArray} (h : OkE m t) (hm : m ≤ m') : OkE m' t := by
  rcases h with h | ⟨e, l, h1, h2, h3⟩
  · exact .inl h
  · exact .inr ⟨e, l, by omega, h2, h3⟩
theorem OkE.inv {m : Nat} {t : ByteArray} (h : OkE m t) (hm : m ≤ 9) : Inv 0 t.data.toList := by
  rcases h with rfl | ⟨e, l, h1, h2, rfl⟩
  · left; decide
  have TL := supT_list h2
  obtain ⟨g1, g2, g3, _⟩ := supOk_parts h2
  have le : (itoaB e).data.toList.length ≤ 1 := by rw [itoa_dec (by omega)]; exact dec_len 0 _ (by omega)
  have c59 : ∀ v : Int, 0 ≤ v → (itoaB v).data.toList.countP (· == 59) = 0 := fun v hv => (dig_good (itoa_digs hv)).2
  have count_front : ∀ (P r : List UInt8) (n : Nat), P.length ≤ n → P.countP (· == 59) ≤ ((P ++ r).take n).countP (· == 59) := fun P r n hn => by
    rw [List.take_append, List.countP_append, List.take_of_length_le hn]
    omega
  cases l with
  | nil =>
    right; right; right
    have l0 : (itoaB (([] : List Int).length : Int)).data.toList.length ≤ 1 := by rw [itoa_dec (by simp)]; exact dec_len 0 _ (by simp)
    have e1 : (supT e []).data.toList = (83 :: ((itoaB e).data.toList ++ 59 :: ((itoaB (([] : List Int).length : Int)).data.toList ++ [59]))) ++ (itoaB (crcS (supS e []))).data.toList := by rw [TL]; simp
    have cP : (83 :: ((itoaB e).data.toList ++ 59 :: ((itoaB (([] : List Int).length : Int)).data.toList ++ [59]))).countP (· == 59) = 2 := by
      simp only [List.countP_cons, List.countP_append, c59 e (by omega), c59 (([] : List Int).length : Int) (by simp), List.countP_nil]
      decide
    refine ⟨0, Nat.le_refl _, ?_, ?_⟩
    · unfold sc
      rw [e1]
      have := count_front (83 :: ((itoaB e).data.toList ++ 59 :: ((itoaB (([] : List Int).length : Int)).data.toList ++ [59]))) (itoaB (crcS (supS e []))).data.toList (7 + 0) (by simp only [List.length_cons, List.length_append, List.length_nil] at l0 ⊢; omega)
      omega
    · rw [e1, List.countP_append, cP, c59 _ (crcS_range _).1]
      omega
  | cons x t =>
    right; left
    have hx := supOk_mem h2 x (List.mem_cons_self ..)
    have ln : (itoaB ((x :: t).length : Int)).data.toList.length ≤ 2 := by rw [itoa_dec (by omega)]; exact dec_len 1 _ (by omega)
    have lx : (itoaB x).data.toList.length ≤ 2 := by rw [itoa_dec (by omega)]; exact dec_len 1 _ (by omega)
    generalize hn : itoaB ((x :: t).length : Int) = nB at *
    have cn : nB.data.toList.countP (· == 59) = 0 := by rw [← hn]; exact c59 _ (by omega)
    have e1 : (supT e (x :: t)).data.toList = (83 :: ((itoaB e).data.toList ++ 59 :: (nB.data.toList ++ 59 :: ((itoaB x).data.toList ++ [59])))) ++ ((t.map fun x => (itoaB x).data.toList ++ [59]).flatten ++ (itoaB (crcS (supS e (x :: t)))).data.toList) := by rw [TL]; simp
    have cP : (83 :: ((itoaB e).data.toList ++ 59 :: (nB.data.toList ++ 59 :: ((itoaB x).data.toList ++ [59])))).countP (· == 59) = 3 := by
      simp only [List.countP_cons, List.countP_append, c59 e (by omega), cn, c59 x (by omega), List.countP_nil]
      decide
    unfold sc
    rw [e1]
    have := count_front (83 :: ((itoaB e).data.toList ++ 59 :: (nB.data.toList ++ 59 :: ((itoaB x).data.toList ++ [59])))) ((t.map fun x => (itoaB x).data.toList ++ [59]).flatten ++ (itoaB (crcS (supS e (x :: t)))).data.toList) 9 (by simp only [List.length_cons, List.length_append, List.length_nil]; omega)
    omega
/-- A commit on such a disk. -/
theorem okL_commit {ss bs : List ByteArray} {ws : List Disk.Wr} (h : scrOk ss ws bs = true) {m : Nat} (k : OkL m ss) : OkL (m + 1) (commitS ss ws bs) := by
  obtain ⟨o1, o2, o3, o4⟩ := scrOk_parts h
  have h0 := lastE_range ss
  have ok := scrP_ok ss bs o2 o4
  have small : ∀ i, i < 2 → (orNone (supR (textAt ss i))).1 ≤ (m : Int) := fun i hi => by
    rcases k i hi with e | ⟨e, l, h1, h2, h3⟩
    · rw [e, supR_empty]; show (0 : Int) ≤ _; omega
    · rw [h3, supR_supT h2]; exact h1
  have l0 := small 0 (by omega)
  have l1 := small 1 (by omega)
  have le : lastE ss ≤ m := by unfold lastE; omega
  intro i hi
  rw [commitS_yes h]
  by_cases e : ((lastE ss + 1) % 2).toNat = i
  · right
    refine ⟨lastE ss + 1, _, by omega, ok, ?_⟩
    unfold textAt
    rw [scrW_done, e]
    exact getD_set_self (by rw [doneS_length, okD_len64 o1]; omega)
  · rw [commit_other h i hi e]
    exact (k i hi).mono (by omega)

end Go.Proofs.YtjclpbaiiklhcaaGreatDoor

/- NewDisk of the model and of the program. -/
namespace Go.Proofs.YtjclpbaiiklhcaaGreatDoor.Disk
open Go.RowKit

set_option maxHeartbeats 400000 in
theorem specNewDisk_any (w : World) : Calls Tryz.prog 69 #[] w fun e w' => ∃ v1 v2, e = .returned (.agg #[v1, v2]) ∧ ND w.heap.size w' v1 v2 es64 [] ∧ Below w.heap.size w w' := by
  have hmk := make64
  have R := empties_row (w.alloc (.cells #[.slice (some ⟨w.heap.size + 1, 0, none⟩) 64 64, .slice none 0 0] 27))
  rw [World.size_alloc] at R
  go_enter Tryz.func69, Tryz.ntmps69
  go_wp2
  exact bodyPost_ret (v := .agg #[.slice (some ⟨w.heap.size + 1, 0, none⟩) 64 64, .slice none 0 0]) (by simp [results, Tryz.results69, go_sem]) rfl ⟨_, _, rfl, nd_row _ _ _ R (by omega), bel_two _ _ _⟩

set_option maxHeartbeats 400000 in
theorem specNewDisk_nil (w : World) : Calls Tryz.prog 69 #[] w fun e w' => ∃ v1, e = .returned (.agg #[v1, .slice none 0 0]) ∧ ND w.heap.size w' v1 (.slice none 0 0) es64 [] ∧ Below w.heap.size w w' ∧ (∃ ao n cap, v1 = .slice ao n cap ∧ n ≤ cap) := by
  have hmk := make64
  have R := empties_row (w.alloc (.cells #[.slice (some ⟨w.heap.size + 1, 0, none⟩) 64 64, .slice none 0 0] 27))
  rw [World.size_alloc] at R
  go_enter Tryz.func69, Tryz.ntmps69
  go_wp2
  exact bodyPost_ret (v := .agg #[.slice (some ⟨w.heap.size + 1, 0, none⟩) 64 64, .slice none 0 0]) (by simp [results, Tryz.results69, go_sem]) rfl ⟨_, rfl, nd_row _ _ _ R (by omega), bel_two _ _ _, ⟨_, _, _, rfl, Nat.le_refl _⟩⟩


end Go.Proofs.YtjclpbaiiklhcaaGreatDoor.Disk
