/- Cutting a text at a mark: cutAt of the program. -/
import Derived.Test.YtimkdjolipnahaaDoorZQPl
import Derived.Laws.RangeAny
import Derived.BigQuiet
namespace Go.Proofs.YtimkdjolipnahaaDoor
open Go.RowKit

theorem getD_at {l : List UInt8} {j : Nat} (h : j < l.length) : l.getD j 0 = l[j] := by simp [List.getD, h]
theorem get_lt (s : ByteArray) (j : Nat) (h : j < s.size) : s.get! j = s.data.toList.getD j 0 := by
  have := get_at s j h
  simp only [Nat.add_zero] at this
  rw [this]
  have h2 : j < s.data.toList.length := by simpa using h
  rw [getD_at h2]
  simp [ByteArray.getElem_eq_getElem_data]
/-- The bytes of a rune: within the text, and all from 128 on where there are several. -/
theorem decode_in (s : ByteArray) (pos : Nat) (h : pos < s.size) : 1 ≤ (Utf8.decode s pos).2 ∧ pos + (Utf8.decode s pos).2 ≤ s.size ∧ ∀ j, pos < j → j < pos + (Utf8.decode s pos).2 → 128 ≤ (s.get! j).toNat := by
  have H : ∀ k, (decide (pos + k < s.size) && (s.get! (pos + k)).toNat / 64 == 2) = true → pos + k < s.size ∧ 128 ≤ (s.get! (pos + k)).toNat := by
    intro k hk
    simp at hk
    exact ⟨hk.1, by omega⟩
  have J : ∀ j k, pos < j → j < pos + k → k ≤ 4 → j = pos + 1 ∨ j = pos + 2 ∨ j = pos + 3 := by intros; omega
  simp only [Utf8.decode]
  split
  · exact ⟨Nat.le_refl _, h, fun j h1 h2 => by dsimp only at h2; omega⟩
  · split
    · rename_i hc
      simp only [Bool.and_eq_true] at hc
      have c1 := H 1 (by simpa using hc.2)
      split
      · refine ⟨by dsimp only; omega, by dsimp only; omega, fun j h1 h2 => ?_⟩
        dsimp only at h2
        have : j = pos + 1 := by omega
        rw [this]
        exact c1.2
      · exact ⟨Nat.le_refl _, h, fun j h1 h2 => by dsimp only at h2; omega⟩
    · split
      · rename_i hc
        simp only [Bool.and_eq_true] at hc
        have c1 := H 1 (by simpa using hc.1.2)
        have c2 := H 2 (by simpa using hc.2)
        split
        · refine ⟨by dsimp only; omega, by dsimp only; omega, fun j h1 h2 => ?_⟩
          dsimp only at h2
          have : j = pos + 1 ∨ j = pos + 2 := by omega
          rcases this with e | e <;> rw [e]
          · exact c1.2
          · exact c2.2
        · exact ⟨Nat.le_refl _, h, fun j h1 h2 => by dsimp only at h2; omega⟩
      · split
        · rename_i hc
          simp only [Bool.and_eq_true] at hc
          have c1 := H 1 (by simpa using hc.1.1.2)
          have c2 := H 2 (by simpa using hc.1.2)
          have c3 := H 3 (by simpa using hc.2)
          split
          · refine ⟨by dsimp only; omega, by dsimp only; omega, fun j h1 h2 => ?_⟩
            dsimp only at h2
            have : j = pos + 1 ∨ j = pos + 2 ∨ j = pos + 3 := by omega
            rcases this with e | e | e <;> rw [e]
            · exact c1.2
            · exact c2.2
            · exact c3.2
          · exact ⟨Nat.le_refl _, h, fun j h1 h2 => by dsimp only at h2; omega⟩
        · exact ⟨Nat.le_refl _, h, fun j h1 h2 => by dsimp only at h2; omega⟩
/-- Up to here the mark was not met. -/
def noM (m : UInt8) (s : ByteArray) (p : Nat) : Prop := p ≤ s.size ∧ ∀ j, j < p → s.data.toList.getD j 0 ≠ m
theorem noM.step {m : UInt8} (hm : m.toNat < 128) {s : ByteArray} {p : Nat} (h : noM m s p) (hp : p < s.size) (hne : ((Utf8.decode s p).1 : Int) ≠ m.toNat) : noM m s (p + (Utf8.decode s p).2) := by
  obtain ⟨d1, d2, d3⟩ := decode_in s p hp
  refine ⟨d2, fun j hj => ?_⟩
  by_cases c : j < p
  · exact h.2 j c
  · have hjs : j < s.size := by omega
    rw [← get_lt s j hjs]
    intro e
    by_cases c2 : j = p
    · subst c2
      have ha := get_at s j hp
      rw [Nat.add_zero, e] at ha
      have := decode_ascii s j hp (by rw [← ha]; exact hm)
      rw [this, ← ha] at hne
      exact hne rfl
    · have := d3 j (by omega) hj
      rw [e] at this
      omega
theorem noM.found {m : UInt8} (hm : m.toNat < 128) {s : ByteArray} {p : Nat} (h : noM m s p) (hp : p < s.size) (he : ((Utf8.decode s p).1 : Int) = m.toNat) : cutL m s.data.toList = (s.data.toList.take p, s.data.toList.drop (p + 1), true) := by
  have hb : s.data.toList.getD p 0 = m := by
    by_cases c : (s[p]'hp).toNat < 128
    · rw [decode_ascii s p hp c] at he
      have ha := get_at s p hp
      rw [Nat.add_zero] at ha
      rw [← get_lt s p hp, ha]
      exact UInt8.toNat_inj.1 (by dsimp only at he; omega)
    · have := (decode_high s p hp (by omega)).1
      omega
  have hl : p < s.data.toList.length := by simpa using hp
  unfold cutL
  rw [show s.data.toList.findIdx? (· == m) = some p from ?_]
  rw [List.findIdx?_eq_some_iff_getElem]
  refine ⟨hl, ?_, fun j hj => ?_⟩
  · rw [getD_at hl] at hb
    simpa using hb
  · have := h.2 j hj
    rw [getD_at (by omega)] at this
    simpa using this
theorem noM.all {m : UInt8} {s : ByteArray} {p : Nat} (h : noM m s p) (hp : ¬ p < s.size) : cutL m s.data.toList = (s.data.toList, [], false) := by
  refine cut_none ?_
  rw [List.all_eq_true]
  intro x hx
  obtain ⟨j, hj, rfl⟩ := List.getElem_of_mem hx
  have := h.2 j (by have := h.1; simp at hj; omega)
  rw [getD_at hj] at this
  simpa using this
theorem ext_take (s : ByteArray) (p : Nat) : s.extract 0 p = ⟨(s.data.toList.take p).toArray⟩ := by
  apply ba_ext
  simp
theorem ext_drop (s : ByteArray) (p : Nat) : s.extract p s.size = ⟨(s.data.toList.drop p).toArray⟩ := by
  apply ba_ext
  have hz : s.size = s.data.toList.length := by simp
  rw [hz]
  simp only [ByteArray.data_extract, Array.toList_extract, List.extract_eq_take_drop]
  exact List.take_of_length_le (by rw [List.length_drop]; exact Nat.le_refl _)
theorem below_drewQ {B : Nat} {a w : World} (h : Below B a w) (n : Nat) : Below B a (w.drewN n) := ⟨h.os, h.tape, h.output, h.size, h.block⟩
/-- The three answers of cutAt. -/
def cutV (m : UInt8) (s : ByteArray) : Value := .tuple #[.string ⟨(cutL m s.data.toList).1.toArray⟩, .string ⟨(cutL m s.data.toList).2.1.toArray⟩, .bool (cutL m s.data.toList).2.2]
set_option maxRecDepth 100000 in
set_option maxHeartbeats 1000000 in
theorem cutAt_any (s : ByteArray) (m : UInt8) (w : World) (hm : m.toNat < 128) (hs : s.size ≤ 1000000000000) :
    Calls Tryd.prog 25 #[.string s, .int .i32 m.toNat] w fun e w' => e = .returned (cutV m s) ∧ Below w.heap.size w w' := by
  have HM : Hid (m.toNat < 128) := hm
  clear hm
  go_enter Tryd.func25, Tryd.ntmps25
  go_wp2
  go_loopw [4, 5, 6, 7, 8] (fun _ _ _ _ _ w' => ∃ pos : Nat, w' = w.iter s pos ∧ Hid (noM m s pos)) (fun _ _ _ _ _ w' => s.size - w'.iterPos w.heap.size)
  case atStart => exact ⟨0, rfl, ⟨Nat.zero_le _, fun j hj => absurd hj (Nat.not_lt_zero _)⟩⟩
  case round =>
    obtain ⟨pos, rfl, hI⟩ := hrel
    by_cases hp : pos < s.size
    · have hnx : ∀ ty, (Instr.next (.pointer (some ⟨w.heap.size, 0, none⟩)) true ty).run Tryd.prog (w.iter s pos) = _ := fun ty => run_next_any w s pos ty hp
      by_cases he : ((Utf8.decode s pos).1 : Int) = m.toNat
      · have hA := hI.out.found HM.out hp he
        go_wp2_with (go_quiet (fail))
        refine bodyPost_ret (v := .tuple #[.string (s.extract 0 pos), .string (s.extract (pos + 1) s.size), .bool true]) (by simp [results, Tryd.results25, go_sem]) rfl ⟨?_, (qbel _ _).trans (below_drewQ (Below.refl _ _) _)⟩
        unfold cutV
        rw [hA, ext_take, ext_drop]
      · have hA := hI.out.step HM.out hp he
        go_wp2
        go_roundw
        case rel => exact ⟨_, rfl, hA⟩
        case measure =>
          have := (decode_in s pos hp).1
          simp
          omega
    · have hnx : ∀ ty, (Instr.next (.pointer (some ⟨w.heap.size, 0, none⟩)) true ty).run Tryd.prog (w.iter s pos) = _ := fun ty => run_next_end w s pos ty hp
      go_wp2
      refine bodyPost_ret (v := .tuple #[.string s, .string ⟨#[]⟩, .bool false]) (by simp [results, Tryd.results25, go_sem]) rfl ⟨?_, qbel _ _⟩
      unfold cutV
      rw [hI.out.all hp]

end Go.Proofs.YtimkdjolipnahaaDoor
