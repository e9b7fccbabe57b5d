/- A disk that holds a superblock and its pages reads as that superblock; with a page damaged, as none. -/
import Derived.Test.YtfcenohgfhefiaaGreatDoorZNewS
import Derived.Test.YtfcenohgfhefiaaGreatDoorZPgP
import Derived.Test.YtfcenohgfhefiaaGreatDoorZScrW
namespace Go.Proofs.YtfcenohgfhefiaaGreatDoor
open Go.RowKit

def bodyT : ByteArray := ⟨#[98, 111, 100, 121]⟩
def dmgT : ByteArray := ⟨#[100, 97, 109, 97, 103, 101, 100]⟩
def pgN (e : Int) (i : Nat) : ByteArray := packT i (e - e / 2) bodyT
def dkL (e : Int) (l : List Int) : Nat → List ByteArray
  | 0 => Disk.es64
  | k + 1 => (dkL e l k).set (l.getD k 0).toNat (pgN e k)
def dkS (e : Int) (l : List Int) : List ByteArray := (dkL e l l.length).set (e % 2).toNat (supT e l)

theorem dkL_len (e : Int) (l : List Int) : ∀ k, (dkL e l k).length = 64
  | 0 => List.length_replicate ..
  | k + 1 => by rw [dkL, List.length_set]; exact dkL_len e l k
theorem dkL_fit (e : Int) (l : List Int) : ∀ k, ∀ s ∈ dkL e l k, s.size ≤ 256
  | 0 => fun s hs => by
    obtain ⟨_, rfl⟩ := List.mem_replicate.1 hs
    exact Nat.zero_le _
  | k + 1 => fit_set (dkL_fit e l k) (packT_fit _ _ _)
theorem dkS_len (e : Int) (l : List Int) : (dkS e l).length = 64 := by unfold dkS; rw [List.length_set]; exact dkL_len _ _ _
theorem dkS_fit (e : Int) (l : List Int) : ∀ s ∈ dkS e l, s.size ≤ 256 := fit_set (dkL_fit e l _) (supT_fit _ _)
theorem getD_set_ne {ss : List ByteArray} {i j : Nat} {t : ByteArray} (h : i ≠ j) : (ss.set i t).getD j ByteArray.empty = ss.getD j ByteArray.empty := by
  rw [List.getD_eq_getElem?_getD, List.getElem?_set_ne h, ← List.getD_eq_getElem?_getD]
theorem getD_set_self {ss : List ByteArray} {i : Nat} {t : ByteArray} (h : i < ss.length) : (ss.set i t).getD i ByteArray.empty = t := by
  rw [List.getD_eq_getElem?_getD, List.getElem?_set_self h]
  rfl
theorem dkL_low (e : Int) (l : List Int) (j : Nat) (hj : j < 2) : ∀ k, (∀ i, i < k → 2 ≤ l.getD i 0) → (dkL e l k).getD j ByteArray.empty = ByteArray.empty
  | 0, _ => by
    show (List.replicate 64 ByteArray.empty).getD j ByteArray.empty = ByteArray.empty
    rw [List.getD_eq_getElem?_getD, List.getElem?_replicate]
    split <;> rfl
  | k + 1, h => by
    have := h k (Nat.lt_succ_self _)
    rw [dkL, getD_set_ne (by omega)]
    exact dkL_low e l j hj k (fun i hi => h i (Nat.lt_succ_of_lt hi))
theorem row_ne {l : List Int} {i k : Nat} (h : goodAt l k = true) (hi : i < k) (hk : k < l.length) : l.getD i 0 ≠ l.getD k 0 := by
  intro e
  unfold goodAt at h
  rw [Bool.and_eq_true] at h
  have h2 := h.2
  rw [Bool.not_eq_true'] at h2
  have : l.getD k 0 ∈ l.take k := by
    rw [← e, List.getD_eq_getElem?_getD, List.getElem?_eq_getElem (by omega)]
    exact List.mem_take_iff_getElem.2 ⟨i, by omega, rfl⟩
  rw [List.contains_iff_mem.2 this] at h2
  cases h2
theorem dkL_at (e : Int) (l : List Int) (i : Nat) : ∀ k, rowOk l k = true → k ≤ l.length → i < k → (dkL e l k).getD (l.getD i 0).toNat ByteArray.empty = pgN e i
  | 0, _, _, hi => absurd hi (Nat.not_lt_zero _)
  | k + 1, h, hk, hi => by
    have gk := rowOk_mem h k (Nat.lt_succ_self _)
    have rk := goodAt_range gk
    by_cases e1 : i = k
    · subst e1
      rw [dkL, getD_set_self (by rw [dkL_len]; omega)]
    · have gi := goodAt_range (rowOk_mem h i hi)
      have ne := row_ne gk (by omega : i < k) (by omega)
      rw [rowOk_succ, Bool.and_eq_true] at h
      rw [dkL, getD_set_ne (by omega)]
      exact dkL_at e l i k h.1 (by omega) (by omega)
theorem pgOk_body {e : Int} {i : Nat} (h0 : 1 ≤ e) (h1 : e ≤ 999999999) (hi : i < 30) : pgOk i (e - e / 2) bodyT = true := by
  unfold pgOk
  rw [decide_eq_true (by omega), decide_eq_true (by omega), decide_eq_true (by decide)]
  rfl
theorem open_pg {e : Int} {i : Nat} (h0 : 1 ≤ e) (h1 : e ≤ 999999999) (hi : i < 30) : openR (pgN e i) = ((i : Int), e - e / 2, bodyT, 0) := by
  have h := pgOk_body h0 h1 hi
  unfold pgN packT
  rw [if_pos h]
  exact open_pack _ _ _ h
theorem open_dmg : (openR dmgT).2.2.2 ≠ 0 := by
  have h : formN dmgT.data.toList = none := by
    unfold formN
    rw [if_neg (by decide)]
  unfold openR
  rw [if_neg (by decide), h]
  decide
theorem supR_empty : supR ByteArray.empty = none := supR_head (by decide)
theorem sups_sound {e : Int} {l : List Int} (h : supOk e l = true) : soundB (dkS e l) e l l.length = true := by
  obtain ⟨p1, p2, p3, p4⟩ := supOk_parts h
  unfold soundB
  rw [List.all_eq_true]
  intro i hi
  have hi' := List.mem_range.1 hi
  have gi := goodAt_range (rowOk_mem p4 i hi')
  have pa : pageAt (dkS e l) l i = ((i : Int), e - e / 2, bodyT, 0) := by
    unfold pageAt dkS
    rw [getD_set_ne (by omega), dkL_at e l i l.length p4 (Nat.le_refl _) hi']
    exact open_pg p1 p2 (by omega)
  unfold soundAt
  rw [pa]
  simp
  omega
theorem newR_dk {e : Int} {l : List Int} (h : supOk e l = true) : newR (dkS e l) = (e, l) := by
  obtain ⟨p1, p2, p3, p4⟩ := supOk_parts h
  have hlow : ∀ i, i < l.length → 2 ≤ l.getD i 0 := fun i hi => (goodAt_range (rowOk_mem p4 i hi)).1
  have S1 : orNone (superR (dkS e l) (supT e l)) = (e, l) := by
    unfold superR
    rw [supR_supT h]
    show orNone (if soundB (dkS e l) e l l.length = true then some (e, l) else none) = (e, l)
    rw [if_pos (sups_sound h)]
    rfl
  have S0 : orNone (superR (dkS e l) ByteArray.empty) = (0, []) := by
    unfold superR
    rw [supR_empty]
    rfl
  have hm : e % 2 = 0 ∨ e % 2 = 1 := by omega
  unfold newR
  rcases hm with hm | hm
  · have t0 : textAt (dkS e l) 0 = supT e l := by
      unfold textAt dkS
      rw [hm]
      exact getD_set_self (by rw [dkL_len]; decide)
    have t1 : textAt (dkS e l) 1 = ByteArray.empty := by
      unfold textAt dkS
      rw [hm, getD_set_ne (by decide)]
      exact dkL_low e l 1 (by omega) _ hlow
    rw [t0, t1, S0, S1, if_neg (by simp; omega)]
  · have t1 : textAt (dkS e l) 1 = supT e l := by
      unfold textAt dkS
      rw [hm]
      exact getD_set_self (by rw [dkL_len]; decide)
    have t0 : textAt (dkS e l) 0 = ByteArray.empty := by
      unfold textAt dkS
      rw [hm, getD_set_ne (by decide)]
      exact dkL_low e l 0 (by omega) _ hlow
    rw [t0, t1, S0, S1, if_pos (by simp; omega)]
theorem newestR_dk {e : Int} {l : List Int} (h : supOk e l = true) : newestR (dkS e l) [] = (e, l) := by
  unfold newestR
  rw [if_pos (okD_mk (dkS_len e l) (by simp) (dkS_fit e l) (fun x hx => by cases hx))]
  exact newR_dk h
theorem newestR_dmg {e : Int} {l : List Int} (h : supOk e l = true) (p : Nat) (hp : p < l.length) : (newestR ((dkS e l).set (l.getD p 0).toNat dmgT) []).1 = 0 := by
  obtain ⟨p1, p2, p3, p4⟩ := supOk_parts h
  have hlow : ∀ i, i < l.length → 2 ≤ l.getD i 0 := fun i hi => (goodAt_range (rowOk_mem p4 i hi)).1
  have gp := goodAt_range (rowOk_mem p4 p hp)
  have S1 : orNone (superR ((dkS e l).set (l.getD p 0).toNat dmgT) (supT e l)) = (0, []) := by
    have ns : soundAt ((dkS e l).set (l.getD p 0).toNat dmgT) e l p = false := by
      have pa : pageAt ((dkS e l).set (l.getD p 0).toNat dmgT) l p = openR dmgT := by
        unfold pageAt
        rw [getD_set_self (by rw [dkS_len]; omega)]
      unfold soundAt
      rw [pa, decide_eq_false open_dmg]
      rfl
    unfold superR
    rw [supR_supT h]
    show orNone (if soundB ((dkS e l).set (l.getD p 0).toNat dmgT) e l l.length = true then some (e, l) else none) = (0, [])
    rw [if_neg (by rw [soundB_false ns hp]; decide)]
    rfl
  have S0 : orNone (superR ((dkS e l).set (l.getD p 0).toNat dmgT) ByteArray.empty) = (0, []) := by
    unfold superR
    rw [supR_empty]
    rfl
  have hm : e % 2 = 0 ∨ e % 2 = 1 := by omega
  unfold newestR
  rw [if_pos (okD_mk (by rw [List.length_set]; exact dkS_len e l) (by simp) (fit_set (dkS_fit e l) (by decide)) (fun x hx => by cases hx))]
  unfold newR
  rcases hm with hm | hm
  · have t0 : textAt ((dkS e l).set (l.getD p 0).toNat dmgT) 0 = supT e l := by
      unfold textAt
      rw [getD_set_ne (by omega)]
      unfold dkS
      rw [hm]
      exact getD_set_self (by rw [dkL_len]; decide)
    have t1 : textAt ((dkS e l).set (l.getD p 0).toNat dmgT) 1 = ByteArray.empty := by
      unfold textAt
      rw [getD_set_ne (by omega)]
      unfold dkS
      rw [hm, getD_set_ne (by decide)]
      exact dkL_low e l 1 (by omega) _ hlow
    rw [t0, t1, S0, S1]
    rfl
  · have t1 : textAt ((dkS e l).set (l.getD p 0).toNat dmgT) 1 = supT e l := by
      unfold textAt
      rw [getD_set_ne (by omega)]
      unfold dkS
      rw [hm]
      exact getD_set_self (by rw [dkL_len]; decide)
    have t0 : textAt ((dkS e l).set (l.getD p 0).toNat dmgT) 0 = ByteArray.empty := by
      unfold textAt
      rw [getD_set_ne (by omega)]
      unfold dkS
      rw [hm, getD_set_ne (by decide)]
      exact dkL_low e l 0 (by omega) _ hlow
    rw [t0, t1, S0, S1]
    rfl

end Go.Proofs.YtfcenohgfhefiaaGreatDoor
