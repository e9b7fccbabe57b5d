/- Crc of the model. -/
import Derived.Test.YtfcenohgfhefiaaGreatDoorRows
import Derived.Test.YtfcenohgfhefiaaGreatDoorSum
namespace Go.Proofs.YtfcenohgfhefiaaGreatDoor
open Go.RowKit

theorem tmod2 (c : Nat) : Int.tmod (c : Int) 2 = ((c % 2 : Nat) : Int) := (Int.ofNat_tmod c 2).symm
theorem tdiv2 (c : Nat) : Int.tdiv (c : Int) 2 = ((c / 2 : Nat) : Int) := (Int.ofNat_tdiv c 2).symm

set_option maxRecDepth 100000 in
set_option maxHeartbeats 1000000 in
theorem crc_any (s : ByteArray) (w : World) (hs : s.size ≤ 1000000000000) :
    Calls Tryz.prog 72 #[.string s] w fun e w' => e = .returned (.int .i64 (crcS s)) ∧ w' = w := by
  go_enter Tryz.func72, Tryz.ntmps72
  go_wp2
  go_loopw [3, 4] (fun c i wr => ∃ k : Nat, k ≤ s.size ∧ i = .int .i64 k ∧ c = .int .i64 (crcL (s.data.toList.take k) : Nat) ∧ wr = w) (fun _ i _ => s.size - (intOf i).toNat)
  case atStart => exact ⟨0, Nat.zero_le _, rfl, rfl, rfl⟩
  case round =>
    obtain ⟨k, hk, rfl, rfl, rfl⟩ := hrel
    by_cases hlt : k < s.size
    · have hc := crcL_lt (s.data.toList.take k)
      generalize hcc : crcL (s.data.toList.take k) = c at *
      have hb : s[k].toNat < 256 := s[k].toNat_lt
      have hw : wrap64 (s[k].toNat : Int) = (s[k].toNat : Int) := by unfold wrap64; omega
      have hx := xor64 c s[k].toNat hc (by omega)
      have hc1 : c ^^^ s[k].toNat < 4294967296 := crcXor_lt hc s[k]
      have H1 : Hid (crcBits 8 (c ^^^ s[k].toNat) = crcL (s.data.toList.take (k + 1))) := (by
        rw [crcL_succ _ k (by simpa using hlt), hcc]
        rfl : crcBits 8 (c ^^^ s[k].toNat) = crcL (s.data.toList.take (k + 1)))
      generalize c ^^^ s[k].toNat = c1 at *
      clear hcc
      go_wp2
      clear hx hw hb
      go_loopw [3, 5] (fun d j wr' => ∃ m : Nat, m ≤ 8 ∧ j = .int .i64 m ∧ d = .int .i64 (crcBits m c1 : Nat) ∧ wr' = wr) (fun _ j _ => 8 - (intOf j).toNat)
      case atStart => exact ⟨0, Nat.zero_le _, rfl, rfl, rfl⟩
      case round =>
        obtain ⟨m, hm, rfl, rfl, rfl⟩ := hrel
        by_cases hm8 : m < 8
        · have hd := crcBits_lt hc1 m
          have H2 : Hid (crcBits (m + 1) c1 = crcBit (crcBits m c1)) := (rfl : crcBits (m + 1) c1 = crcBit (crcBits m c1))
          generalize crcBits m c1 = d at *
          have t1 := tmod2 d
          have t2 := tdiv2 d
          by_cases hodd : d % 2 = 1
          · go_wp2
            refine ⟨⟨m + 1, by omega, by go_num, ?_, trivial⟩, by simp [intOf]; omega⟩
            have h := xor64 (d / 2) 3988292384 (by omega) (by omega)
            have e : ((d / 2 : Nat) : Int) = (d : Int) / 2 := by omega
            rw [e] at h
            rw [H2.out, crcBit, if_pos hodd, ← h]
            rfl
          · go_wp2
            refine ⟨⟨m + 1, by omega, by go_num, ?_, trivial⟩, by simp [intOf]; omega⟩
            have e : ((d / 2 : Nat) : Int) = (d : Int) / 2 := by omega
            rw [H2.out, crcBit, if_neg hodd, e]
        · obtain rfl : m = 8 := by omega
          go_wp2
          exact ⟨⟨k + 1, by omega, by go_num, by rw [H1.out], trivial⟩, by simp [intOf]; omega⟩
    · obtain rfl : k = s.size := by omega
      go_wp2
      go_ret
      refine ⟨congrArg (fun z => Ending.returned (.int .i64 z)) ?_, rfl⟩
      have e : s.data.toList.take s.size = s.data.toList := List.take_of_length_le (by rw [Array.length_toList]; exact Nat.le_refl _)
      have h := crcL_lt s.data.toList
      rw [e]
      unfold crcS wrap64
      omega

end Go.Proofs.YtfcenohgfhefiaaGreatDoor
