/- The program's own sum of a text. -/
import Derived.Test.YtfcenohgfhefiaaGreatDoorTable
import Derived.Test.YtfcenohgfhefiaaGreatDoorCrc
namespace Go.Proofs.YtfcenohgfhefiaaGreatDoor
open Go.RowKit

set_option maxRecDepth 100000 in
set_option maxHeartbeats 1000000 in
theorem byteSum_any (b : Nat) (w : World) (hb : b < 256) :
    Calls Tryz.prog 107 #[.int .u8 b] w fun e w' => e = .returned (.int .u32 (crcBits 8 b : Nat)) ∧ w' = w := by
  go_enter Tryz.func107, Tryz.ntmps107
  go_wp2
  go_loopw [3, 7] (fun d j wr' => ∃ m : Nat, m ≤ 8 ∧ j = .int .i64 m ∧ d = .int .u32 (crcBits m b : Nat) ∧ wr' = w) (fun _ j _ => 8 - (intOf j).toNat)
  case atStart => exact ⟨0, Nat.zero_le _, rfl, rfl, rfl⟩
  case round =>
    obtain ⟨m, hm, rfl, rfl, rfl⟩ := hrel
    by_cases hm8 : m < 8
    · have hd := crcBits_lt (show b < 4294967296 by omega) m
      have H2 : Hid (crcBits (m + 1) b = crcBit (crcBits m b)) := (rfl : crcBits (m + 1) b = crcBit (crcBits m b))
      generalize crcBits m b = d at *
      have t1 := tmod2 d
      have t2 := tdiv2 d
      by_cases hodd : d % 2 = 1
      · go_wp2
        refine ⟨⟨m + 1, by omega, by go_num, ?_, trivial⟩, by simp [intOf]; omega⟩
        have h := xor32 (d / 2) 3988292384 (by omega) (by omega)
        have e : ((d / 2 : Nat) : Int) = (d : Int) / 2 := by omega
        rw [e] at h
        rw [H2.out, crcBit, if_pos hodd, ← h]
        rfl
      · go_wp2
        refine ⟨⟨m + 1, by omega, by go_num, ?_, trivial⟩, by simp [intOf]; omega⟩
        have e : ((d / 2 : Nat) : Int) = (d : Int) / 2 := by omega
        rw [H2.out, crcBit, if_neg hodd, e]
    · obtain rfl : m = 8 := by omega
      go_wp2
      go_ret
      exact ⟨rfl, rfl⟩
set_option maxRecDepth 100000 in
set_option maxHeartbeats 1000000 in
theorem sumOf_any (s : ByteArray) (w : World) (hs : s.size ≤ 1000000000000) :
    Calls Tryz.prog 77 #[.string s] w fun e w' => e = .returned (.int .i64 (crcS s)) ∧ w' = w := by
  go_enter Tryz.func77, Tryz.ntmps77
  go_wp2
  go_loopw [3, 7] (fun c i wr => ∃ k : Nat, k ≤ s.size ∧ i = .int .i64 k ∧ c = .int .u32 (crcL (s.data.toList.take k) : Nat) ∧ wr = w) (fun _ i _ => s.size - (intOf i).toNat)
  case atStart => exact ⟨0, Nat.zero_le _, rfl, rfl, rfl⟩
  case round =>
    obtain ⟨k, hk, rfl, rfl, rfl⟩ := hrel
    by_cases hlt : k < s.size
    · have hc := crcL_lt (s.data.toList.take k)
      generalize hcc : crcL (s.data.toList.take k) = c at *
      have hb : s[k].toNat < 256 := s[k].toNat_lt
      have hx8 : bits .xor .u8 ((c : Int) % 256) (s[k].toNat : Int) = ((c % 256 ^^^ s[k].toNat : Nat) : Int) := xor8 (c % 256) s[k].toNat (by omega) hb
      have hd : c % 256 ^^^ s[k].toNat < 256 := Nat.xor_lt_two_pow (n := 8) (by omega) (by omega)
      have H1 : Hid (crcL (s.data.toList.take (k + 1)) = crcBits 8 (c % 256 ^^^ s[k].toNat) ^^^ (c / 256)) := (by
        rw [crcL_succ _ k (by simpa using hlt), hcc]
        exact crcByte_table c s[k] : crcL (s.data.toList.take (k + 1)) = crcBits 8 (c % 256 ^^^ s[k].toNat) ^^^ (c / 256))
      clear hcc
      generalize c % 256 ^^^ s[k].toNat = y at *
      have hy := crcBits_lt (show y < 4294967296 by omega) 8
      have hx32 := xor32 (crcBits 8 y) (c / 256) hy (by omega)
      go_wp2_with (go_at_call 107; refine (byteSum_any y _ hd).mono ?_; rintro e w' ⟨rfl, rfl⟩)
      refine ⟨⟨k + 1, by omega, by go_num, ?_, trivial⟩, by simp [intOf]; omega⟩
      have e : ((c / 256 : Nat) : Int) = (c : Int) / 256 := by omega
      rw [H1.out, ← hx32, e]
    · obtain rfl : k = s.size := by omega
      go_wp2
      go_ret
      refine ⟨congrArg (fun z => Ending.returned (.int .i64 z)) ?_, rfl⟩
      have e : s.data.toList.take s.size = s.data.toList := List.take_of_length_le (by rw [Array.length_toList]; exact Nat.le_refl _)
      have h := crcL_lt s.data.toList
      rw [e]
      unfold crcS
      omega

end Go.Proofs.YtfcenohgfhefiaaGreatDoor
