/- What a text opens to, in plain words. -/
import Derived.Test.YtimkdjolipnahaaDoorZField
namespace Go.Proofs.YtimkdjolipnahaaDoor
open Go.RowKit

/-- A number and the ; behind it off the head of a text: the number, and the rest. -/
def cutN (l : List UInt8) (most : Nat) : Option (Int × List UInt8) :=
  match l.findIdx? (· == 59) with
  | none => none
  | some i => if numIs ⟨(l.take i).toArray⟩ most = true then some (numV ⟨(l.take i).toArray⟩ most, l.drop (i + 1)) else none
def formN (l : List UInt8) : Option (Int × Int × Int × List UInt8) :=
  if l.head? = some 80 then
    match cutN (l.drop 1) 9 with
    | none => none
    | some (n, r1) => match cutN r1 9 with
      | none => none
      | some (e, r2) => match cutN r2 10 with
        | none => none
        | some (c, b) => some (n, e, c, b)
  else none
def bytesOf (l : List UInt8) : ByteArray := ⟨l.toArray⟩
/-- Number, epoch, body and code of a text. -/
def openR (s : ByteArray) : Int × Int × ByteArray × Int :=
  if s = ⟨#[]⟩ then (0, 0, ⟨#[]⟩, 1) else
  match formN s.data.toList with
  | none => (0, 0, ⟨#[]⟩, 2)
  | some (n, e, c, b) =>
    if pgOk n e (bytesOf b) = true then
      if crcS (headS n e ++ bytesOf b) = c then (n, e, bytesOf b, 0) else (0, 0, ⟨#[]⟩, 4)
    else (0, 0, ⟨#[]⟩, 3)
def openV (r : Int × Int × ByteArray × Int) : Value := .tuple #[.int .i64 r.1, .int .i64 r.2.1, .string r.2.2.1, .int .i64 r.2.2.2]

theorem numV_range {s : ByteArray} {most : Nat} (hm : most ≤ 18) : -1000000000000000000 ≤ numV s most ∧ numV s most ≤ 1000000000000000000 := by
  cases h : numIs s most
  · rw [numV_not h]; omega
  · rw [numV_is h]
    unfold numIs at h
    simp only [Bool.and_eq_true, decide_eq_true_eq] at h
    have := dsv_full hm h.1.2 h.1.1.2
    split <;> omega
theorem cutN_range {l r : List UInt8} {most : Nat} {n : Int} (hm : most ≤ 18) (h : cutN l most = some (n, r)) : -1000000000000000000 ≤ n ∧ n ≤ 1000000000000000000 ∧ r.length ≤ l.length := by
  unfold cutN at h
  split at h
  · simp at h
  · split at h
    · rename_i i _ _
      simp only [Option.some.injEq, Prod.mk.injEq] at h
      obtain ⟨h1, h2⟩ := h
      have := numV_range (s := ⟨(l.take i).toArray⟩) hm
      rw [← h2, List.length_drop]
      omega
    · simp at h

theorem ext_list (s : ByteArray) (a i : Nat) : s.extract a i = ⟨((s.data.toList.drop a).take (i - a)).toArray⟩ := by
  apply ByteArray.ext
  apply Array.toList_inj.1
  rw [ByteArray.data_extract, Array.toList_extract, List.extract_eq_take_drop]
theorem cut_field (s : ByteArray) (a most : Nat) : cutN (s.data.toList.drop a) most = (fieldN s a most).map (fun x => (x.1, s.data.toList.drop x.2)) := by
  unfold cutN fieldN semiAt
  cases h : (s.data.toList.drop a).findIdx? (· == 59) with
  | none => rfl
  | some i =>
    simp only [Option.map_some]
    rw [ext_list s a (i + a), show i + a - a = i from by omega]
    split
    · simp only [Option.map_some, List.drop_drop]
      rw [show i + a + 1 = a + (i + 1) from by omega]
    · rfl
theorem field_le {s : ByteArray} {a most : Nat} {n : Int} {p : Nat} (h : fieldN s a most = some (n, p)) : p ≤ s.size ∧ a < p := by
  unfold fieldN semiAt at h
  cases hf : (s.data.toList.drop a).findIdx? (· == 59) with
  | none => rw [hf] at h; simp at h
  | some i =>
    rw [hf] at h
    simp only [Option.map_some] at h
    split at h
    · simp only [Option.some.injEq, Prod.mk.injEq] at h
      obtain ⟨h', _⟩ := List.findIdx?_eq_some_iff_getElem.1 hf
      rw [List.length_drop, Array.length_toList] at h'
      change i < s.size - a at h'
      omega
    · simp at h
theorem field_range {s : ByteArray} {a most : Nat} {n : Int} {p : Nat} (hm : most ≤ 18) (h : fieldN s a most = some (n, p)) : -1000000000000000000 ≤ n ∧ n ≤ 1000000000000000000 := by
  have e := cut_field s a most
  rw [h] at e
  have := cutN_range hm e
  omega

end Go.Proofs.YtimkdjolipnahaaDoor
