/- l2Field of the model: a number with a ; behind it. -/
import Derived.Test.YtfcenohgfhefiaaGreatDoorRead
namespace Go.Proofs.YtfcenohgfhefiaaGreatDoor
open Go.RowKit

/-- The first ; from a place on. -/
def semiAt (s : ByteArray) (a : Nat) : Option Nat := ((s.data.toList.drop a).findIdx? (· == 59)).map (· + a)
def fieldN (s : ByteArray) (a most : Nat) : Option (Int × Nat) :=
  match semiAt s a with
  | none => none
  | some i => if numIs (s.extract a i) most = true then some (numV (s.extract a i) most, i + 1) else none
def fieldV (s : ByteArray) (a most : Nat) : Int := match fieldN s a most with | none => 0 | some x => x.1
def fieldP (s : ByteArray) (a most : Nat) : Int := match fieldN s a most with | none => -1 | some x => (x.2 : Int)

theorem drop_get (s : ByteArray) (a j : Nat) (h : a + j < s.size) : ∃ h', (s.data.toList.drop a)[j]'h' = s[a + j] := by
  refine ⟨by rw [List.length_drop, Array.length_toList]; change _ < s.size - a; omega, ?_⟩
  rw [List.getElem_drop, Array.getElem_toList]
  rfl
theorem semiAt_some {s : ByteArray} {a k : Nat} (ha : a ≤ k) (hk : k < s.size) (h : s[k].toNat = 59) (hn : ∀ j (_ : a ≤ j) (h2 : j < k), ¬ (s[j]'(by omega)).toNat = 59) : semiAt s a = some k := by
  unfold semiAt
  have e : (s.data.toList.drop a).findIdx? (· == 59) = some (k - a) := by
    rw [List.findIdx?_eq_some_iff_getElem]
    obtain ⟨h', e'⟩ := drop_get s a (k - a) (by omega)
    refine ⟨h', ?_, fun j hj => ?_⟩
    · rw [e']
      have e3 : s[a + (k - a)]'(by omega) = s[k] := by congr 1; omega
      rw [e3]
      have : s[k] = 59 := UInt8.toNat_inj.1 h
      simp [this]
    · obtain ⟨h2, e2⟩ := drop_get s a j (by omega)
      rw [e2]
      have := hn (a + j) (by omega) (by omega)
      intro e4
      exact this (by have e5 : s[a + j] = 59 := by simpa using e4
                     rw [e5]; rfl)
  rw [e]
  simp
  omega
theorem semiAt_none {s : ByteArray} {a : Nat} (hn : ∀ j (_ : a ≤ j) (h2 : j < s.size), ¬ (s[j]).toNat = 59) : semiAt s a = none := by
  unfold semiAt
  have e : (s.data.toList.drop a).findIdx? (· == 59) = none := by
    rw [List.findIdx?_eq_none_iff]
    intro x hx
    obtain ⟨j, hj, rfl⟩ := List.mem_iff_getElem.1 hx
    have hj2 : a + j < s.size := by rw [List.length_drop, Array.length_toList] at hj; change j < s.size - a at hj; omega
    obtain ⟨h2, e2⟩ := drop_get s a j hj2
    rw [e2]
    have := hn (a + j) (by omega) hj2
    simp
    intro e5
    exact this (by rw [e5]; rfl)
  rw [e]
  rfl

set_option maxRecDepth 100000 in
set_option maxHeartbeats 1000000 in
theorem l2Field_any (s : ByteArray) (a most : Nat) (w : World) (hs : s.size ≤ 1000000000000) (ha : a ≤ s.size) (hm : most ≤ 18) :
    Calls Tryz.prog 120 #[.string s, .int .i64 a, .int .i64 most] w fun x w' => x = .returned (.tuple #[.int .i64 (fieldV s a most), .int .i64 (fieldP s a most)]) ∧ w' = w := by
  go_enter Tryz.func120, Tryz.ntmps120
  go_wp2
  go_loopw [8] (fun kv wr => ∃ k : Nat, a ≤ k ∧ k ≤ s.size ∧ kv = .int .i64 k ∧ Hid (∀ j (_ : a ≤ j) (_ : j < k) (h2 : j < s.size), ¬ (s[j]).toNat = 59) ∧ wr = w) (fun kv _ => s.size - (intOf kv).toNat)
  case atStart => exact ⟨a, Nat.le_refl _, ha, rfl, fun j h1 h2 => absurd h2 (by omega), rfl⟩
  case round =>
    obtain ⟨k, hak, hk, rfl, hn, rfl⟩ := hrel
    by_cases hlt : k < s.size
    · by_cases hb : s[k].toNat = 59
      · have HS : Hid (semiAt s a = some k) := semiAt_some hak hlt hb (fun j h1 h2 => hn.out j h1 h2 (by omega))
        have hbi : (s[k].toNat : Int) = 59 := by omega
        go_wp2_with (fail)
        refine (l2Number_any _ _ _ (by rw [ByteArray.size_extract]; omega) hm).mono ?_
        rintro x w' ⟨rfl, hw'⟩
        rw [hw']
        clear hw' w'
        cases hi : numIs (s.extract a k) most
        · have HI : Hid (numIs (s.extract a k) most = false) := hi
          clear hi
          go_wp2
          exact bodyPost_ret (v := .tuple #[.int .i64 0, .int .i64 (-1)]) (by simp [results, Tryz.results120, go_sem]) rfl ⟨by unfold fieldV fieldP fieldN; rw [HS.out]; simp only [HI.out]; rfl, rfl⟩
        · have HI : Hid (numIs (s.extract a k) most = true) := hi
          clear hi
          go_wp2
          exact bodyPost_ret (v := .tuple #[.int .i64 (numV (s.extract a k) most), .int .i64 ((k : Int) + 1)]) (by simp [results, Tryz.results120, go_sem]) rfl ⟨by unfold fieldV fieldP fieldN; rw [HS.out]; simp only [HI.out]; rfl, rfl⟩
      · have hbi : ¬ (s[k].toNat : Int) = 59 := by omega
        have HN : Hid (∀ j (_ : a ≤ j) (_ : j < k + 1) (h2 : j < s.size), ¬ (s[j]).toNat = 59) := fun j h1 h2 h3 => by
          by_cases e : j = k
          · subst e; exact hb
          · exact hn.out j h1 (by omega) h3
        go_wp2
        exact ⟨⟨k + 1, by omega, by omega, by go_num, HN, trivial⟩, by simp [intOf]; omega⟩
    · obtain rfl : k = s.size := by omega
      have HS : Hid (semiAt s a = none) := semiAt_none (fun j h1 h2 => hn.out j h1 h2 h2)
      go_wp2
      exact bodyPost_ret (v := .tuple #[.int .i64 0, .int .i64 (-1)]) (by simp [results, Tryz.results120, go_sem]) rfl ⟨by unfold fieldV fieldP fieldN; rw [HS.out], rfl⟩

end Go.Proofs.YtfcenohgfhefiaaGreatDoor
