/- l2Field of the model: a number with a ; behind it. -/
import Derived.Test.YtimkdjolipnahaaDoorZRead
namespace Go.Proofs.YtimkdjolipnahaaDoor
open Go.RowKit

/-- The first ; from a place on. -/
def semiAt (s : ByteArray) (a : Nat) : Option Nat := ((s.data.toList.drop a).findIdx? (· == 59)).map (· + a)
def fieldN (s : ByteArray) (a most : Nat) : Option (Int × Nat) :=
  match semiAt s a with
  | none => none
  | some i => if numIs (s.extract a i) most = true then some (numV (s.extract a i) most, i + 1) else none
def fieldV (s : ByteArray) (a most : Nat) : Int := match fieldN s a most with | none => 0 | some x => x.1
def fieldP (s : ByteArray) (a most : Nat) : Int := match fieldN s a most with | none => -1 | some x => (x.2 : Int)

theorem drop_get (s : ByteArray) (a j : Nat) (h : a + j < s.size) : ∃ h', (s.data.toList.drop a)[j]'h' = s[a + j] := by
  refine ⟨by rw [List.length_drop, Array.length_toList]; change _ < s.size - a; omega, ?_⟩
  rw [List.getElem_drop, Array.getElem_toList]
  rfl
theorem semiAt_some {s : ByteArray} {a k : Nat} (ha : a ≤ k) (hk : k < s.size) (h : s[k].toNat = 59) (hn : ∀ j (_ : a ≤ j) (h2 : j < k), ¬ (s[j]'(by omega)).toNat = 59) : semiAt s a = some k := by
  unfold semiAt
  have e : (s.data.toList.drop a).findIdx? (· == 59) = some (k - a) := by
    rw [List.findIdx?_eq_some_iff_getElem]
    obtain ⟨h', e'⟩ := drop_get s a (k - a) (by omega)
    refine ⟨h', ?_, fun j hj => ?_⟩
    · rw [e']
      have e3 : s[a + (k - a)]'(by omega) = s[k] := by congr 1; omega
      rw [e3]
      have : s[k] = 59 := UInt8.toNat_inj.1 h
      simp [this]
    · obtain ⟨h2, e2⟩ := drop_get s a j (by omega)
      rw [e2]
      have := hn (a + j) (by omega) (by omega)
      intro e4
      exact this (by have e5 : s[a + j] = 59 := by simpa using e4
                     rw [e5]; rfl)
  rw [e]
  simp
  omega
theorem semiAt_none {s : ByteArray} {a : Nat} (hn : ∀ j (_ : a ≤ j) (h2 : j < s.size), ¬ (s[j]).toNat = 59) : semiAt s a = none := by
  unfold semiAt
  have e : (s.data.toList.drop a).findIdx? (· == 59) = none := by
    rw [List.findIdx?_eq_none_iff]
    intro x hx
    obtain ⟨j, hj, rfl⟩ := List.mem_iff_getElem.1 hx
    have hj2 : a + j < s.size := by rw [List.length_drop, Array.length_toList] at hj; change j < s.size - a at hj; omega
    obtain ⟨h2, e2⟩ := drop_get s a j hj2
    rw [e2]
    have := hn (a + j) (by omega) hj2
    simp
    intro e5
    exact this (by rw [e5]; rfl)
  rw [e]
  rfl


end Go.Proofs.YtimkdjolipnahaaDoor
