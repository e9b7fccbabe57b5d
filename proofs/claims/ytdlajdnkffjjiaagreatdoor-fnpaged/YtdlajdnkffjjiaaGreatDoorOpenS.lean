/- OpenPage of the model. -/
import Derived.Test.YtdlajdnkffjjiaaGreatDoorPage
namespace Go.Proofs.YtdlajdnkffjjiaaGreatDoor
open Go.RowKit

theorem head_is (s : ByteArray) (h : 0 < s.size) : s.data.toList.head? = some s[0] := by
  rw [List.head?_eq_getElem?]
  have h2 : 0 < s.data.toList.length := by rw [Array.length_toList]; exact h
  rw [List.getElem?_eq_getElem h2, Array.getElem_toList]
  rfl
theorem openR_form {s : ByteArray} (h0 : s ≠ ⟨#[]⟩) (h : formN s.data.toList = none) : openR s = (0, 0, ⟨#[]⟩, 2) := by unfold openR; rw [if_neg h0, h]
theorem openR_range {s : ByteArray} {n e c : Int} {b : List UInt8} (h0 : s ≠ ⟨#[]⟩) (h : formN s.data.toList = some (n, e, c, b)) (hp : pgOk n e (bytesOf b) = false) : openR s = (0, 0, ⟨#[]⟩, 3) := by
  unfold openR; rw [if_neg h0, h]; simp only; rw [if_neg (by rw [hp]; simp)]
theorem openR_sum {s : ByteArray} {n e c : Int} {b : List UInt8} (h0 : s ≠ ⟨#[]⟩) (h : formN s.data.toList = some (n, e, c, b)) (hp : pgOk n e (bytesOf b) = true) (hc : crcS (headS n e ++ bytesOf b) ≠ c) : openR s = (0, 0, ⟨#[]⟩, 4) := by
  unfold openR; rw [if_neg h0, h]; simp only; rw [if_pos hp, if_neg hc]
theorem openR_is {s : ByteArray} {n e c : Int} {b : List UInt8} (h0 : s ≠ ⟨#[]⟩) (h : formN s.data.toList = some (n, e, c, b)) (hp : pgOk n e (bytesOf b) = true) (hc : crcS (headS n e ++ bytesOf b) = c) : openR s = (n, e, bytesOf b, 0) := by
  unfold openR; rw [if_neg h0, h]; simp only; rw [if_pos hp, if_pos hc]

theorem form_no {s : ByteArray} (hp : 0 < s.size) (h : ¬ s[0].toNat = 80) : formN s.data.toList = none := by
  unfold formN
  rw [if_neg]
  rw [head_is s hp]
  intro e
  exact h (by rw [Option.some.inj e]; rfl)
theorem form_yes {s : ByteArray} (hp : 0 < s.size) (h : s[0].toNat = 80) : s.data.toList.head? = some 80 := by
  rw [head_is s hp]
  exact congrArg some (UInt8.toNat_inj.1 h)
theorem form_1 {s : ByteArray} (h : fieldN s 1 9 = none) : formN s.data.toList = none := by
  unfold formN
  rw [cut_field s 1 9, h]
  simp
theorem form_2 {s : ByteArray} {n : Int} {a : Nat} (h : fieldN s 1 9 = some (n, a)) (h2 : fieldN s a 9 = none) : formN s.data.toList = none := by
  unfold formN
  rw [cut_field s 1 9, h]
  simp only [Option.map_some]
  rw [cut_field s a 9, h2]
  simp
theorem form_3 {s : ByteArray} {n e : Int} {a b : Nat} (h : fieldN s 1 9 = some (n, a)) (h2 : fieldN s a 9 = some (e, b)) (h3 : fieldN s b 10 = none) : formN s.data.toList = none := by
  unfold formN
  rw [cut_field s 1 9, h]
  simp only [Option.map_some]
  rw [cut_field s a 9, h2]
  simp only [Option.map_some]
  rw [cut_field s b 10, h3]
  simp
theorem form_4 {s : ByteArray} {n e c : Int} {a b d : Nat} (h0 : s.data.toList.head? = some 80) (h : fieldN s 1 9 = some (n, a)) (h2 : fieldN s a 9 = some (e, b)) (h3 : fieldN s b 10 = some (c, d)) : formN s.data.toList = some (n, e, c, s.data.toList.drop d) := by
  unfold formN
  rw [if_pos h0, cut_field s 1 9, h]
  simp only [Option.map_some]
  rw [cut_field s a 9, h2]
  simp only [Option.map_some]
  rw [cut_field s b 10, h3]
  rfl

theorem fieldV_none {s : ByteArray} {a m : Nat} (h : fieldN s a m = none) : fieldV s a m = 0 ∧ fieldP s a m = -1 := by unfold fieldV fieldP; rw [h]; exact ⟨rfl, rfl⟩
theorem fieldV_some {s : ByteArray} {a m : Nat} {n : Int} {p : Nat} (h : fieldN s a m = some (n, p)) : fieldV s a m = n ∧ fieldP s a m = p := by unfold fieldV fieldP; rw [h]; exact ⟨rfl, rfl⟩
theorem drop_body (s : ByteArray) (d : Nat) : s.extract d s.size = bytesOf (s.data.toList.drop d) := by
  unfold bytesOf
  apply ByteArray.ext
  apply Array.toList_inj.1
  rw [ByteArray.data_extract, Array.toList_extract, List.extract_eq_take_drop]
  exact List.take_of_length_le (by rw [List.length_drop, Array.length_toList]; exact Nat.le_refl _)


end Go.Proofs.YtdlajdnkffjjiaaGreatDoor
