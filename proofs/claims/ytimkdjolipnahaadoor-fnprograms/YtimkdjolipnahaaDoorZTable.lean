/- The sum of a text by bytes: what a byte's sum and the rest of the number make together. -/
import Derived.Test.YtimkdjolipnahaaDoorZSum
namespace Go.Proofs.YtimkdjolipnahaaDoor
open Go.RowKit

theorem half_xor (a b : Nat) : (a ^^^ b) / 2 = (a / 2) ^^^ (b / 2) := by
  apply Nat.eq_of_testBit_eq
  intro i
  rw [Nat.testBit_div_two, Nat.testBit_xor, Nat.testBit_xor, Nat.testBit_div_two, Nat.testBit_div_two]
theorem crcBit_xor (a b : Nat) : crcBit (a ^^^ b) = crcBit a ^^^ crcBit b := by
  have h := @Nat.xor_mod_two_eq_one a b
  unfold crcBit
  rw [half_xor]
  generalize a / 2 = x
  generalize b / 2 = y
  by_cases ha : a % 2 = 1 <;> by_cases hb : b % 2 = 1
  · rw [if_neg (by rw [h]; simp [ha, hb]), if_pos ha, if_pos hb, Nat.xor_assoc x, Nat.xor_comm 3988292384, Nat.xor_assoc y, Nat.xor_self, Nat.xor_zero]
  · rw [if_pos (by rw [h]; simp [ha, hb]), if_pos ha, if_neg hb, Nat.xor_assoc, Nat.xor_assoc, Nat.xor_comm y]
  · rw [if_pos (by rw [h]; simp [ha, hb]), if_neg ha, if_pos hb, Nat.xor_assoc]
  · rw [if_neg (by rw [h]; simp [ha, hb]), if_neg ha, if_neg hb]
theorem crcBits_xor (a b : Nat) : ∀ k, crcBits k (a ^^^ b) = crcBits k a ^^^ crcBits k b
  | 0 => rfl
  | k + 1 => by
    show crcBit (crcBits k (a ^^^ b)) = crcBit (crcBits k a) ^^^ crcBit (crcBits k b)
    rw [crcBits_xor a b k, crcBit_xor]
theorem crcBit_even (q : Nat) : crcBit (q * 2) = q := by
  unfold crcBit
  rw [if_neg (by omega)]
  omega
theorem crcBits_high (q : Nat) : crcBits 8 (q * 256) = q := by
  show crcBit (crcBit (crcBit (crcBit (crcBit (crcBit (crcBit (crcBit (q * 256)))))))) = q
  rw [show q * 256 = q * 128 * 2 from by omega, crcBit_even, show q * 128 = q * 64 * 2 from by omega, crcBit_even, show q * 64 = q * 32 * 2 from by omega, crcBit_even,
    show q * 32 = q * 16 * 2 from by omega, crcBit_even, show q * 16 = q * 8 * 2 from by omega, crcBit_even, show q * 8 = q * 4 * 2 from by omega, crcBit_even,
    show q * 4 = q * 2 * 2 from by omega, crcBit_even, crcBit_even]
theorem parts_xor (c : Nat) : c = (c % 256) ^^^ (c / 256 * 256) := by
  apply Nat.eq_of_testBit_eq
  intro i
  rw [Nat.testBit_xor, show (256 : Nat) = 2 ^ 8 from rfl, Nat.testBit_mod_two_pow, Nat.testBit_mul_two_pow, Nat.testBit_div_two_pow]
  by_cases h : i < 8
  · have : ¬ 8 ≤ i := by omega
    simp [h, this]
  · have h8 : 8 ≤ i := by omega
    simp [h, h8, show i - 8 + 8 = i from by omega]
/-- A round of the sum, by the byte's own sum. -/
theorem crcByte_table (c : Nat) (b : UInt8) : crcByte c b = crcBits 8 ((c % 256) ^^^ b.toNat) ^^^ (c / 256) := by
  unfold crcByte
  have e : c ^^^ b.toNat = ((c % 256) ^^^ b.toNat) ^^^ (c / 256 * 256) := by
    conv => lhs; rw [parts_xor c]
    rw [Nat.xor_assoc, Nat.xor_comm (c / 256 * 256), Nat.xor_assoc]
  rw [e, crcBits_xor, crcBits_high]

theorem xor32 (a b : Nat) (ha : a < 4294967296) (hb : b < 4294967296) : bits .xor .u32 (a : Int) (b : Int) = ((a ^^^ b : Nat) : Int) := by
  have hx : a ^^^ b < 4294967296 := Nat.xor_lt_two_pow (n := 32) (by omega) (by omega)
  unfold bits
  show IntKind.wrap .u32 ((BitVec.ofInt 32 (a : Int) ^^^ BitVec.ofInt 32 (b : Int)).toNat : Int) = _
  rw [BitVec.toNat_xor, BitVec.ofInt_natCast, BitVec.ofInt_natCast, BitVec.toNat_ofNat, BitVec.toNat_ofNat, Nat.mod_eq_of_lt (by omega), Nat.mod_eq_of_lt (by omega)]
  simp [IntKind.wrap, IntKind.bits, IntKind.signed]
  omega
theorem xor8 (a b : Nat) (ha : a < 256) (hb : b < 256) : bits .xor .u8 (a : Int) (b : Int) = ((a ^^^ b : Nat) : Int) := by
  have hx : a ^^^ b < 256 := Nat.xor_lt_two_pow (n := 8) (by omega) (by omega)
  unfold bits
  show IntKind.wrap .u8 ((BitVec.ofInt 8 (a : Int) ^^^ BitVec.ofInt 8 (b : Int)).toNat : Int) = _
  rw [BitVec.toNat_xor, BitVec.ofInt_natCast, BitVec.ofInt_natCast, BitVec.toNat_ofNat, BitVec.toNat_ofNat, Nat.mod_eq_of_lt (by omega), Nat.mod_eq_of_lt (by omega)]
  simp [IntKind.wrap, IntKind.bits, IntKind.signed]
  omega

end Go.Proofs.YtimkdjolipnahaaDoor
