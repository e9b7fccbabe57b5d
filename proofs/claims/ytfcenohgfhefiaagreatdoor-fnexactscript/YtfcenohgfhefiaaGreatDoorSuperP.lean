/- A superblock's text, in plain words. -/
import Derived.Test.YtfcenohgfhefiaaGreatDoorInts
namespace Go.Proofs.YtfcenohgfhefiaaGreatDoor
open Go.RowKit

def supHead (e : Int) (n : Nat) : ByteArray := ⟨#[83]⟩ ++ itoaB e ++ semi ++ itoaB n ++ semi
def supL (acc : ByteArray) (l : List Int) : ByteArray := l.foldl (fun a x => a ++ itoaB x ++ semi) acc
/-- Number i is a page's sector and none of those ahead of it. -/
def goodAt (l : List Int) (i : Nat) : Bool := decide (2 ≤ l.getD i 0 ∧ l.getD i 0 ≤ 63) && !(l.take i).contains (l.getD i 0)
def rowOk (l : List Int) (k : Nat) : Bool := (List.range k).all (goodAt l)
def supOk (e : Int) (l : List Int) : Bool := decide (1 ≤ e ∧ e ≤ 999999999) && decide (l.length ≤ 30) && rowOk l l.length
def supS (e : Int) (l : List Int) : ByteArray := supL (supHead e l.length) l
def supT (e : Int) (l : List Int) : ByteArray := if supOk e l = true then supS e l ++ itoaB (crcS (supS e l)) else ⟨#[]⟩

theorem rowOk_succ (l : List Int) (k : Nat) : rowOk l (k + 1) = (rowOk l k && goodAt l k) := by
  unfold rowOk
  rw [List.range_succ, List.all_append]
  simp
theorem rowOk_mem {l : List Int} {k : Nat} (h : rowOk l k = true) (i : Nat) (hi : i < k) : goodAt l i = true := by
  unfold rowOk at h
  exact List.all_eq_true.1 h i (List.mem_range.2 hi)
theorem rowOk_false {l : List Int} {i n : Nat} (h : goodAt l i = false) (hi : i < n) : rowOk l n = false := by
  rw [Bool.eq_false_iff]
  intro hc
  rw [rowOk_mem hc i hi] at h
  exact absurd h (by simp)
theorem goodAt_range {l : List Int} {i : Nat} (h : goodAt l i = true) : 2 ≤ l.getD i 0 ∧ l.getD i 0 ≤ 63 := by
  unfold goodAt at h
  rw [Bool.and_eq_true] at h
  exact of_decide_eq_true h.1
theorem supOk_row {e : Int} {l : List Int} (h : rowOk l l.length = false) : supOk e l = false := by unfold supOk; rw [h]; simp
theorem supT_no {e : Int} {l : List Int} (h : supOk e l = false) : supT e l = ⟨#[]⟩ := by unfold supT; rw [if_neg (by rw [h]; simp)]
theorem supT_yes {e : Int} {l : List Int} (h : supOk e l = true) : supT e l = supS e l ++ itoaB (crcS (supS e l)) := by unfold supT; rw [if_pos h]
theorem supOk_yes {e : Int} {l : List Int} (h0 : 1 ≤ e) (h1 : e ≤ 999999999) (hl : l.length ≤ 30) (h : rowOk l l.length = true) : supOk e l = true := by
  unfold supOk
  rw [h, decide_eq_true ⟨h0, h1⟩, decide_eq_true hl]
  rfl
theorem supOk_e {e : Int} {l : List Int} (h : ¬ (1 ≤ e ∧ e ≤ 999999999)) : supOk e l = false := by unfold supOk; rw [decide_eq_false h]; simp
theorem supOk_l {e : Int} {l : List Int} (h : ¬ l.length ≤ 30) : supOk e l = false := by unfold supOk; rw [decide_eq_false h]; simp

theorem supL_succ (acc : ByteArray) (l : List Int) (k : Nat) (h : k < l.length) : supL acc (l.take (k + 1)) = supL acc (l.take k) ++ itoaB (l.getD k 0) ++ semi := by
  unfold supL
  rw [List.take_succ_eq_append_getElem h, List.foldl_append]
  simp [h]
theorem supHead_size {e : Int} {n : Nat} (h0 : 1 ≤ e) (h1 : e ≤ 999999999) (hn : n ≤ 1000000) : (supHead e n).size ≤ 43 := by
  have a := itoaB_size (n := e) (by omega) (by omega)
  have b := itoaB_size (n := n) (by omega) (by omega)
  have c : semi.size = 1 := rfl
  have d : (⟨#[83]⟩ : ByteArray).size = 1 := rfl
  unfold supHead
  rw [ByteArray.size_append, ByteArray.size_append, ByteArray.size_append, ByteArray.size_append]
  omega
theorem supL_size {acc : ByteArray} {l : List Int} : ∀ k, k ≤ l.length → rowOk l k = true → (supL acc (l.take k)).size ≤ acc.size + 21 * k
  | 0, _, _ => by simp [supL]
  | k + 1, hk, h => by
    rw [rowOk_succ, Bool.and_eq_true] at h
    have ih := supL_size (acc := acc) (l := l) k (by omega) h.1
    obtain ⟨r1, r2⟩ := goodAt_range h.2
    have a := itoaB_size (n := l.getD k 0) (by omega) (by omega)
    have c : semi.size = 1 := rfl
    rw [supL_succ acc l k (by omega), ByteArray.size_append, ByteArray.size_append]
    omega
theorem goodAt_no {l : List Int} {i : Nat} (h : ¬ (2 ≤ l.getD i 0 ∧ l.getD i 0 ≤ 63)) : goodAt l i = false := by unfold goodAt; rw [decide_eq_false h]; simp
theorem goodAt_twice {l : List Int} {i : Nat} (h : (l.take i).contains (l.getD i 0) = true) : goodAt l i = false := by unfold goodAt; rw [h]; simp
theorem goodAt_yes {l : List Int} {i : Nat} (h : 2 ≤ l.getD i 0 ∧ l.getD i 0 ≤ 63) (hc : (l.take i).contains (l.getD i 0) = false) : goodAt l i = true := by unfold goodAt; rw [hc, decide_eq_true h]; rfl
theorem take_get {l : List Int} {i j : Nat} (h : j < i) : (l.take i).getD j 0 = l.getD j 0 := by simp [List.getD_eq_getElem?_getD, h]

end Go.Proofs.YtfcenohgfhefiaaGreatDoor
