import Derived.WalkKit
import Derived.WalkSpells
import Derived.WalkLawsBesides
import Derived.Test.YtddocjmjianajaaRows
import Derived.Lib.ItoaNum
import Derived.Test.YtddocjmjianajaaZMH
import Derived.Deep.RegionHeld3
import Derived.Deep.RegionWith
import Derived.Deep.OwnRows
/- The sum of a text, in plain numbers. -/
namespace Go.Proofs.Ytddocjmjianajaa
open Go.RowKit

def crcBit (c : Nat) : Nat := if c % 2 = 1 then (c / 2) ^^^ 3988292384 else c / 2
def crcBits : Nat → Nat → Nat
  | 0, c => c
  | k + 1, c => crcBit (crcBits k c)
def crcByte (c : Nat) (b : UInt8) : Nat := crcBits 8 (c ^^^ b.toNat)
def crcL (l : List UInt8) : Nat := l.foldl crcByte 4294967295
def crcS (s : ByteArray) : Int := 4294967295 - (crcL s.data.toList : Int)

theorem crcBit_lt {c : Nat} (h : c < 4294967296) : crcBit c < 4294967296 := by
  unfold crcBit
  split
  · exact Nat.xor_lt_two_pow (n := 32) (by omega) (by omega)
  · omega
theorem crcBits_lt {c : Nat} (h : c < 4294967296) : ∀ k, crcBits k c < 4294967296
  | 0 => h
  | k + 1 => crcBit_lt (crcBits_lt h k)
theorem crcXor_lt {c : Nat} (h : c < 4294967296) (b : UInt8) : c ^^^ b.toNat < 4294967296 :=
  Nat.xor_lt_two_pow (n := 32) (by omega) (by have := b.toNat_lt; omega)
theorem crcByte_lt {c : Nat} (h : c < 4294967296) (b : UInt8) : crcByte c b < 4294967296 := crcBits_lt (crcXor_lt h b) 8
theorem crcL_lt (l : List UInt8) : crcL l < 4294967296 := by
  unfold crcL
  have key : ∀ (l : List UInt8) (c : Nat), c < 4294967296 → l.foldl crcByte c < 4294967296 := by
    intro l
    induction l with
    | nil => intro c h; exact h
    | cons x r ih => intro c h; exact ih _ (crcByte_lt h x)
  exact key l _ (by omega)
theorem crcL_succ (l : List UInt8) (k : Nat) (h : k < l.length) : crcL (l.take (k + 1)) = crcByte (crcL (l.take k)) l[k] := by
  unfold crcL
  rw [List.take_succ_eq_append_getElem h, List.foldl_append]
  rfl
theorem crcS_range (s : ByteArray) : 0 ≤ crcS s ∧ crcS s ≤ 4294967295 := by
  have := crcL_lt s.data.toList
  unfold crcS
  omega

theorem xor64 (a b : Nat) (ha : a < 4294967296) (hb : b < 4294967296) : bits .xor .i64 (a : Int) (b : Int) = ((a ^^^ b : Nat) : Int) := by
  have hx : a ^^^ b < 4294967296 := Nat.xor_lt_two_pow (n := 32) (by omega) (by omega)
  unfold bits
  show IntKind.wrap .i64 ((BitVec.ofInt 64 (a : Int) ^^^ BitVec.ofInt 64 (b : Int)).toNat : Int) = _
  rw [BitVec.toNat_xor, BitVec.ofInt_natCast, BitVec.ofInt_natCast, BitVec.toNat_ofNat, BitVec.toNat_ofNat, Nat.mod_eq_of_lt (by omega), Nat.mod_eq_of_lt (by omega)]
  simp [IntKind.wrap, IntKind.bits, IntKind.signed]
  omega

end Go.Proofs.Ytddocjmjianajaa

/- Crc of the model. -/
namespace Go.Proofs.Ytddocjmjianajaa
open Go.RowKit

theorem tmod2 (c : Nat) : Int.tmod (c : Int) 2 = ((c % 2 : Nat) : Int) := (Int.ofNat_tmod c 2).symm
theorem tdiv2 (c : Nat) : Int.tdiv (c : Int) 2 = ((c / 2 : Nat) : Int) := (Int.ofNat_tdiv c 2).symm

set_option maxRecDepth 100000 in
set_option maxHeartbeats 1000000 in
theorem crc_any (s : ByteArray) (w : World) (hs : s.size ≤ 1000000000000) :
    Calls Try.prog 55 #[.string s] w fun e w' => e = .returned (.int .i64 (crcS s)) ∧ w' = w := by
  go_enter Try.func55, Try.ntmps55
  go_wp2
  go_loopw [3, 4] (fun c i wr => ∃ k : Nat, k ≤ s.size ∧ i = .int .i64 k ∧ c = .int .i64 (crcL (s.data.toList.take k) : Nat) ∧ wr = w) (fun _ i _ => s.size - (intOf i).toNat)
  case atStart => exact ⟨0, Nat.zero_le _, rfl, rfl, rfl⟩
  case round =>
    obtain ⟨k, hk, rfl, rfl, rfl⟩ := hrel
    by_cases hlt : k < s.size
    · have hc := crcL_lt (s.data.toList.take k)
      generalize hcc : crcL (s.data.toList.take k) = c at *
      have hb : s[k].toNat < 256 := s[k].toNat_lt
      have hw : wrap64 (s[k].toNat : Int) = (s[k].toNat : Int) := by unfold wrap64; omega
      have hx := xor64 c s[k].toNat hc (by omega)
      have hc1 : c ^^^ s[k].toNat < 4294967296 := crcXor_lt hc s[k]
      have H1 : Hid (crcBits 8 (c ^^^ s[k].toNat) = crcL (s.data.toList.take (k + 1))) := (by
        rw [crcL_succ _ k (by simpa using hlt), hcc]
        rfl : crcBits 8 (c ^^^ s[k].toNat) = crcL (s.data.toList.take (k + 1)))
      generalize c ^^^ s[k].toNat = c1 at *
      clear hcc
      go_wp2
      clear hx hw hb
      go_loopw [3, 5] (fun d j wr' => ∃ m : Nat, m ≤ 8 ∧ j = .int .i64 m ∧ d = .int .i64 (crcBits m c1 : Nat) ∧ wr' = wr) (fun _ j _ => 8 - (intOf j).toNat)
      case atStart => exact ⟨0, Nat.zero_le _, rfl, rfl, rfl⟩
      case round =>
        obtain ⟨m, hm, rfl, rfl, rfl⟩ := hrel
        by_cases hm8 : m < 8
        · have hd := crcBits_lt hc1 m
          have H2 : Hid (crcBits (m + 1) c1 = crcBit (crcBits m c1)) := (rfl : crcBits (m + 1) c1 = crcBit (crcBits m c1))
          generalize crcBits m c1 = d at *
          have t1 := tmod2 d
          have t2 := tdiv2 d
          by_cases hodd : d % 2 = 1
          · go_wp2
            refine ⟨⟨m + 1, by omega, by go_num, ?_, trivial⟩, by simp [intOf]; omega⟩
            have h := xor64 (d / 2) 3988292384 (by omega) (by omega)
            have e : ((d / 2 : Nat) : Int) = (d : Int) / 2 := by omega
            rw [e] at h
            rw [H2.out, crcBit, if_pos hodd, ← h]
            rfl
          · go_wp2
            refine ⟨⟨m + 1, by omega, by go_num, ?_, trivial⟩, by simp [intOf]; omega⟩
            have e : ((d / 2 : Nat) : Int) = (d : Int) / 2 := by omega
            rw [H2.out, crcBit, if_neg hodd, e]
        · obtain rfl : m = 8 := by omega
          go_wp2
          exact ⟨⟨k + 1, by omega, by go_num, by rw [H1.out], trivial⟩, by simp [intOf]; omega⟩
    · obtain rfl : k = s.size := by omega
      go_wp2
      go_ret
      refine ⟨congrArg (fun z => Ending.returned (.int .i64 z)) ?_, rfl⟩
      have e : s.data.toList.take s.size = s.data.toList := List.take_of_length_le (by rw [Array.length_toList]; exact Nat.le_refl _)
      have h := crcL_lt s.data.toList
      rw [e]
      unfold crcS wrap64
      omega

end Go.Proofs.Ytddocjmjianajaa

/- l2Int of the model: the numeral of a number. -/
namespace Go.Proofs.Ytddocjmjianajaa
open Go.RowKit

theorem conv_one (w : World) (c : Int) : (convert 22 9 (.slice (some ⟨w.heap.size, 0, none⟩) 1 1)).run Try.prog (w.alloc (.cells #[.int .u8 c] 5)) = .ok (.string ⟨#[UInt8.ofNat c.toNat]⟩) (w.alloc (.cells #[.int .u8 c] 5)) := by
  have hl := run_loadCells_list (P := Try.prog) (w.alloc (.cells #[.int .u8 c] 5)) ⟨w.heap.size, 0, none⟩ ([c].map (Value.int .u8)) (fun j v hj => by
    match j, hj with
    | 0, hj => simp at hj; subst hj; simp [Addr.add])
  rw [run_convert_bytes_string _ 22 9 5 _ _ _ (by kernel_rfl) (by kernel_rfl) (by kernel_rfl), run_bytesToString _ _ 1 1 [c] hl]
  rfl

/-- The digits of a number, none of nought. -/
def pre10 (m : Nat) : List UInt8 := if m = 0 then [] else Lib.decDigits m
theorem digit_eq (d : Nat) : UInt8.ofNat (48 + d) = 48 + UInt8.ofNat d := by rw [UInt8.ofNat_add]; rfl
theorem dec_step (m : Nat) : Lib.decDigits m = pre10 (m / 10) ++ [UInt8.ofNat (48 + m % 10)] := by
  rw [Lib.decDigits]
  unfold pre10
  by_cases h : m < 10
  · rw [dif_pos h, if_pos (by omega), Nat.mod_eq_of_lt h]
    rfl
  · rw [dif_neg h, if_neg (by omega)]
theorem pre_step (m : Nat) (h : m ≠ 0) : pre10 m = pre10 (m / 10) ++ [UInt8.ofNat (48 + m % 10)] := by
  rw [← dec_step]
  unfold pre10
  rw [if_neg h]

/-- What is left to write, and what is written. -/
def Writ (N m : Nat) (s : ByteArray) : Prop := (s = ⟨#[]⟩ ∧ m = N) ∨ (s ≠ ⟨#[]⟩ ∧ Lib.decDigits N = pre10 m ++ s.data.toList)
theorem Writ.step {N m : Nat} {s : ByteArray} (h : Writ N m s) (hm : s = ⟨#[]⟩ ∨ m ≠ 0) : Writ N (m / 10) (⟨#[48 + UInt8.ofNat (m % 10)]⟩ ++ s) := by
  rw [← digit_eq]
  refine .inr ⟨fun e => ?_, ?_⟩
  · have := congrArg ByteArray.size e
    rw [ByteArray.size_append] at this
    change 1 + s.size = 0 at this
    omega
  · rcases h with ⟨rfl, rfl⟩ | ⟨hs, h⟩
    · rw [dec_step]
      simp
    · rw [h, pre_step m (hm.resolve_left hs)]
      simp
theorem Writ.done {N : Nat} {s : ByteArray} (h : Writ N 0 s) (hs : s ≠ ⟨#[]⟩) : s = ⟨(Lib.decDigits N).toArray⟩ := by
  rcases h with ⟨e, _⟩ | ⟨_, h⟩
  · exact absurd e hs
  · rw [h]
    simp [pre10]

/-- One where the text is empty. -/
def isEmp : Value → Nat
  | .string s => if s.size = 0 then 1 else 0
  | _ => 0

theorem isEmp_cons (x : UInt8) (s : ByteArray) : isEmp (.string (⟨#[x]⟩ ++ s)) = 0 := by
  show (if (⟨#[x]⟩ ++ s : ByteArray).size = 0 then 1 else 0) = 0
  rw [if_neg]
  rw [ByteArray.size_append]
  show ¬ (1 + s.size = 0)
  omega
theorem isEmp_nil : isEmp (.string ⟨#[]⟩) = 1 := rfl
theorem size_cons (x : UInt8) (s : ByteArray) : (⟨#[x]⟩ ++ s : ByteArray).size = s.size + 1 := by
  rw [ByteArray.size_append]
  show 1 + s.size = _
  omega
theorem pow_step {m k : Nat} (h : m < 10 ^ (20 - k)) (hk : k ≤ 20) (hm : k = 0 ∨ m ≠ 0) : m / 10 < 10 ^ (20 - (k + 1)) ∧ k + 1 ≤ 20 := by
  by_cases h20 : k = 20
  · subst h20
    simp at h
    omega
  · have e : 20 - k = (20 - (k + 1)) + 1 := by omega
    rw [e, Nat.pow_succ] at h
    exact ⟨(Nat.div_lt_iff_lt_mul (by omega)).2 h, by omega⟩
theorem str_nil {s : ByteArray} (h : s ≠ ⟨#[]⟩) : ¬ s.toList = [] := fun e => h (by
  rw [ByteArray.toList_eq] at e
  exact ByteArray.ext (Array.toList_eq_nil_iff.1 e))
theorem size_pos {s : ByteArray} (h : s ≠ ⟨#[]⟩) : s.size ≠ 0 := fun e => h (ByteArray.ext (Array.size_eq_zero_iff.1 e))

set_option maxRecDepth 100000 in
set_option maxHeartbeats 1000000 in
theorem l2Int_pos (n : Nat) (w : World) (hn : n ≤ 9223372036854775807) :
    Calls Try.prog 54 #[.int .i64 n] w fun e w' => e = .returned (.string ⟨(Lib.itoa n).toArray⟩) ∧ Below w.heap.size w w' := by
  have hcv := conv_one
  have HN : Hid (Lib.itoa n = Lib.decDigits n) := (by unfold Lib.itoa; rw [if_neg (by omega)]; rfl : Lib.itoa n = Lib.decDigits n)
  have hneg : decide ((n : Int) < 0) = false := by simp
  go_enter Try.func54, Try.ntmps54
  go_wp2
  go_loopw [0, 3] (fun a o wr => ∃ (m : Nat) (s : ByteArray), a = .int .i64 m ∧ o = .string s ∧ m ≤ n ∧ s.size ≤ 20 ∧ Hid (m < 10 ^ (20 - s.size)) ∧ Hid (Writ n m s) ∧ Below w.heap.size w wr) (fun a o _ => (intOf a).toNat + isEmp o)
  case atStart =>
    exact ⟨n, ⟨#[]⟩, rfl, rfl, Nat.le_refl _, by show 0 ≤ 20; omega, (by show n < 10 ^ 20; omega : n < 10 ^ (20 - (⟨#[]⟩ : ByteArray).size)), .inl ⟨rfl, rfl⟩, Below.refl _ _⟩
  case round =>
    obtain ⟨m, s, rfl, rfl, hm, hs, hp, hd, hb⟩ := hrel
    by_cases hgo : s = ⟨#[]⟩ ∨ m ≠ 0
    · have HD : Hid (Writ n (m / 10) (⟨#[48 + UInt8.ofNat (m % 10)]⟩ ++ s)) := hd.out.step hgo
      obtain ⟨p1, p2⟩ := pow_step hp.out hs (hgo.imp (fun e => by rw [e]; rfl) id)
      have HP : Hid (m / 10 < 10 ^ (20 - (s.size + 1))) := p1
      have hq : decide ((m : Int) % 10 < 0) = false := by simp; omega
      clear p1
      by_cases hse : s = ⟨#[]⟩
      · subst hse
        go_wp2
        exact ⟨⟨m / 10, _, by go_num, rfl, by omega, by rw [size_cons]; exact p2, (by rw [size_cons]; exact HP.out : m / 10 < 10 ^ (20 - (⟨#[48 + UInt8.ofNat (m % 10)]⟩ ++ ⟨#[]⟩ : ByteArray).size)), HD, hb.alloc hb.size _⟩, by rw [isEmp_cons, isEmp_nil]; simp [intOf]; omega⟩
      · have hm0 := hgo.resolve_left hse
        have q1 := str_nil hse
        have q2 : s.toList.isEmpty = false := by simpa using q1
        have q3 : ((m : Int) != 0) = true := by simp; omega
        go_wp2
        exact ⟨⟨m / 10, _, by go_num, rfl, by omega, by rw [size_cons]; exact p2, (by rw [size_cons]; exact HP.out : m / 10 < 10 ^ (20 - (⟨#[48 + UInt8.ofNat (m % 10)]⟩ ++ s : ByteArray).size)), HD, hb.alloc hb.size _⟩, by rw [isEmp_cons]; simp [intOf]; omega⟩
    · have hse : s ≠ ⟨#[]⟩ := fun e => hgo (.inl e)
      obtain rfl : m = 0 := Decidable.byContradiction (fun e => hgo (.inr e))
      have q1 := str_nil hse
      have q2 : s.toList.isEmpty = false := by simpa using q1
      go_wp2
      go_ret
      refine ⟨congrArg (fun z => Ending.returned (.string z)) ?_, hb⟩
      rw [HN.out]
      exact hd.out.done hse

theorem tmod_neg (m : Nat) : Int.tmod (-(m : Int)) 10 = -((m % 10 : Nat) : Int) := by rw [Int.neg_tmod]; exact congrArg Neg.neg (Int.ofNat_tmod m 10).symm
theorem tdiv_neg (m : Nat) : Int.tdiv (-(m : Int)) 10 = -((m / 10 : Nat) : Int) := by rw [Int.neg_tdiv]; exact congrArg Neg.neg (Int.ofNat_tdiv m 10).symm

set_option maxRecDepth 100000 in
set_option maxHeartbeats 1000000 in
theorem l2Int_neg (n : Nat) (w : World) (hn0 : n ≠ 0) (hn : n ≤ 9223372036854775808) :
    Calls Try.prog 54 #[.int .i64 (-(n : Int))] w fun e w' => e = .returned (.string ⟨(Lib.itoa (-(n : Int))).toArray⟩) ∧ Below w.heap.size w w' := by
  have hcv := conv_one
  have HN : Hid (Lib.itoa (-(n : Int)) = 45 :: Lib.decDigits n) := (by unfold Lib.itoa; rw [if_pos (by omega), Int.natAbs_neg]; rfl : Lib.itoa (-(n : Int)) = 45 :: Lib.decDigits n)
  have hneg : decide (-(n : Int) < 0) = true := by simp; omega
  go_enter Try.func54, Try.ntmps54
  go_wp2
  go_loopw [0, 3] (fun a o wr => ∃ (m : Nat) (s : ByteArray), a = .int .i64 (-(m : Int)) ∧ o = .string s ∧ m ≤ n ∧ s.size ≤ 20 ∧ Hid (m < 10 ^ (20 - s.size)) ∧ Hid (Writ n m s) ∧ Below w.heap.size w wr) (fun a o _ => (-(intOf a)).toNat + isEmp o)
  case atStart =>
    exact ⟨n, ⟨#[]⟩, rfl, rfl, Nat.le_refl _, by show 0 ≤ 20; omega, (by show n < 10 ^ 20; omega : n < 10 ^ (20 - (⟨#[]⟩ : ByteArray).size)), .inl ⟨rfl, rfl⟩, Below.refl _ _⟩
  case round =>
    obtain ⟨m, s, rfl, rfl, hm, hs, hp, hd, hb⟩ := hrel
    by_cases hgo : s = ⟨#[]⟩ ∨ m ≠ 0
    · have HD : Hid (Writ n (m / 10) (⟨#[48 + UInt8.ofNat (m % 10)]⟩ ++ s)) := hd.out.step hgo
      obtain ⟨p1, p2⟩ := pow_step hp.out hs (hgo.imp (fun e => by rw [e]; rfl) id)
      have HP : Hid (m / 10 < 10 ^ (20 - (s.size + 1))) := p1
      have t1 := tmod_neg m
      have t2 := tdiv_neg m
      clear p1
      by_cases hse : s = ⟨#[]⟩
      · subst hse
        go_wp2
        · exact ⟨⟨m / 10, _, by go_num, rfl, by omega, by rw [size_cons]; exact p2, (by rw [size_cons]; exact HP.out : m / 10 < 10 ^ (20 - (⟨#[48 + UInt8.ofNat (m % 10)]⟩ ++ ⟨#[]⟩ : ByteArray).size)), HD, hb.alloc hb.size _⟩, by rw [isEmp_cons, isEmp_nil]; simp [intOf]; omega⟩
        · have z : m % 10 = 0 := by omega
          have zi : (m : Int) % 10 = 0 := by omega
          have HD' := HD.out
          rw [z] at HD'
          rw [zi]
          exact ⟨⟨m / 10, _, by go_num, rfl, by omega, by rw [size_cons]; exact p2, (by rw [size_cons]; exact HP.out : m / 10 < 10 ^ (20 - (⟨#[UInt8.ofNat ((48 : Int) + -0).toNat]⟩ ++ ⟨#[]⟩ : ByteArray).size)), HD', hb.alloc hb.size _⟩, by rw [isEmp_cons, isEmp_nil]; simp [intOf]; omega⟩
      · have hm0 := hgo.resolve_left hse
        have q1 := str_nil hse
        have q2 : s.toList.isEmpty = false := by simpa using q1
        have q3 : (-(m : Int) != 0) = true := by simp; omega
        go_wp2
        · exact ⟨⟨m / 10, _, by go_num, rfl, by omega, by rw [size_cons]; exact p2, (by rw [size_cons]; exact HP.out : m / 10 < 10 ^ (20 - (⟨#[48 + UInt8.ofNat (m % 10)]⟩ ++ s : ByteArray).size)), HD, hb.alloc hb.size _⟩, by rw [isEmp_cons]; simp [intOf]; omega⟩
        · have z : m % 10 = 0 := by omega
          have zi : (m : Int) % 10 = 0 := by omega
          have HD' := HD.out
          rw [z] at HD'
          rw [zi]
          exact ⟨⟨m / 10, _, by go_num, rfl, by omega, by rw [size_cons]; exact p2, (by rw [size_cons]; exact HP.out : m / 10 < 10 ^ (20 - (⟨#[UInt8.ofNat ((48 : Int) + -0).toNat]⟩ ++ s : ByteArray).size)), HD', hb.alloc hb.size _⟩, by rw [isEmp_cons]; simp [intOf]; omega⟩
    · have hse : s ≠ ⟨#[]⟩ := fun e => hgo (.inl e)
      obtain rfl : m = 0 := Decidable.byContradiction (fun e => hgo (.inr e))
      have q1 := str_nil hse
      have q2 : s.toList.isEmpty = false := by simpa using q1
      have e1 : (⟨#[45]⟩ ++ s : ByteArray) = ⟨(45 :: Lib.decDigits n).toArray⟩ := by
        rw [hd.out.done hse]
        apply ByteArray.ext
        simp
      have E1 : Hid ((⟨#[45]⟩ ++ s : ByteArray) = ⟨(45 :: Lib.decDigits n).toArray⟩) := e1
      clear e1
      go_wp2
      go_ret
      refine ⟨congrArg (fun z => Ending.returned (.string z)) ?_, hb⟩
      rw [HN.out]
      exact E1.out

theorem l2Int_any (n : Int) (w : World) (h0 : -9223372036854775808 ≤ n) (h1 : n ≤ 9223372036854775807) :
    Calls Try.prog 54 #[.int .i64 n] w fun e w' => e = .returned (.string ⟨(Lib.itoa n).toArray⟩) ∧ Below w.heap.size w w' := by
  by_cases h : 0 ≤ n
  · obtain ⟨k, rfl⟩ := Int.eq_ofNat_of_zero_le h
    exact l2Int_pos k w (by omega)
  · obtain ⟨k, hk⟩ := Int.eq_ofNat_of_zero_le (a := -n) (by omega)
    obtain rfl : n = -(k : Int) := by omega
    exact l2Int_neg k w (by omega) (by omega)

end Go.Proofs.Ytddocjmjianajaa

/- PackPage of the model, with what it calls. -/
namespace Go.Proofs.Ytddocjmjianajaa
open Go.RowKit

theorem dec_len : ∀ (k m : Nat), m < 10 ^ (k + 1) → (Lib.decDigits m).length ≤ k + 1
  | 0, m, h => by rw [Lib.decDigits, dif_pos (by omega)]; simp
  | k + 1, m, h => by
    rw [Lib.decDigits]
    split
    · simp
    · have h2 : m / 10 < 10 ^ (k + 1) := (Nat.div_lt_iff_lt_mul (by omega)).2 (by rw [Nat.pow_succ] at h; exact h)
      have := dec_len k _ h2
      rw [List.length_append]
      simp
      exact this

/-- The numeral of a number. -/
def itoaB (n : Int) : ByteArray := ⟨(Lib.itoa n).toArray⟩
theorem itoaB_size {n : Int} (h0 : -9223372036854775808 ≤ n) (h1 : n ≤ 9223372036854775807) : (itoaB n).size ≤ 20 := by
  show (Lib.itoa n).toArray.size ≤ 20
  rw [List.size_toArray]
  unfold Lib.itoa
  split
  · have := dec_len 18 n.natAbs (by omega)
    simp
    omega
  · have := dec_len 18 n.toNat (by omega)
    omega

theorem l1In_any (x lo hi : Int) (w : World) :
    Calls Try.prog 40 #[.int .i64 x, .int .i64 lo, .int .i64 hi] w fun e w' => e = .returned (.bool (decide (lo ≤ x ∧ x ≤ hi))) ∧ w' = w := by
  by_cases h : lo ≤ x
  · by_cases h2 : x ≤ hi
    · have g : (decide (lo ≤ x ∧ x ≤ hi)) = true := by simp [h, h2]
      rw [g]
      clear g
      go_enter Try.func40, Try.ntmps40
      go_wp2
      go_ret
      exact ⟨rfl, rfl⟩
    · have g : (decide (lo ≤ x ∧ x ≤ hi)) = false := by simp [h2]
      rw [g]
      clear g
      go_enter Try.func40, Try.ntmps40
      go_wp2
      go_ret
      exact ⟨rfl, rfl⟩
  · have g : (decide (lo ≤ x ∧ x ≤ hi)) = false := by simp [h]
    rw [g]
    clear g
    go_enter Try.func40, Try.ntmps40
    go_wp2
    go_ret
    exact ⟨rfl, rfl⟩

def pgOk (n e : Int) (b : ByteArray) : Bool := decide (0 ≤ n ∧ n ≤ 29) && decide (0 ≤ e ∧ e ≤ 999999999) && decide (b.size ≤ 200)
theorem pgOk_range {n e : Int} {b : ByteArray} (h : pgOk n e b = true) : 0 ≤ n ∧ n ≤ 29 ∧ 0 ≤ e ∧ e ≤ 999999999 ∧ b.size ≤ 200 := by
  unfold pgOk at h
  simp at h
  omega

set_option maxHeartbeats 400000 in
theorem l2Range_any (n e : Int) (b : ByteArray) (w : World) :
    Calls Try.prog 52 #[.int .i64 n, .int .i64 e, .string b] w fun x w' => x = .returned (.bool (pgOk n e b)) ∧ w' = w := by
  go_enter Try.func52, Try.ntmps52
  go_wp2_with (fail)
  refine (l1In_any _ _ _ _).mono ?_
  rintro x w1 ⟨rfl, rfl⟩
  cases h1 : decide (0 ≤ n ∧ n ≤ 29)
  · have G : Hid (pgOk n e b = false) := (by unfold pgOk; rw [h1]; rfl : pgOk n e b = false)
    clear h1
    go_wp2
    go_ret
    exact ⟨by rw [G.out]; rfl, rfl⟩
  go_wp2_with (fail)
  refine (l1In_any _ _ _ _).mono ?_
  rintro x w2 ⟨rfl, rfl⟩
  cases h2 : decide (0 ≤ e ∧ e ≤ 999999999)
  · have G : Hid (pgOk n e b = false) := (by unfold pgOk; rw [h1, h2]; rfl : pgOk n e b = false)
    clear h1 h2
    go_wp2
    go_ret
    exact ⟨by rw [G.out]; rfl, rfl⟩
  have g : pgOk n e b = decide (b.size ≤ 200) := by unfold pgOk; rw [h1, h2]; simp
  clear h1 h2
  by_cases hb : b.size ≤ 200
  · have G : Hid (pgOk n e b = true) := (by rw [g]; simp [hb] : pgOk n e b = true)
    have g2 : decide ((b.size : Int) ≤ 200) = true := by simp; omega
    clear g
    go_wp2
    go_ret
    exact ⟨by rw [G.out]; rfl, rfl⟩
  · have G : Hid (pgOk n e b = false) := (by rw [g]; simp; omega : pgOk n e b = false)
    have g2 : decide ((b.size : Int) ≤ 200) = false := by simp; omega
    clear g
    go_wp2
    go_ret
    exact ⟨by rw [G.out]; rfl, rfl⟩

theorem bel_after {a b c : World} (h : Below a.heap.size a b) (k : Below b.heap.size b c) : Below a.heap.size a c := h.trans (k.mono h.size)

def semi : ByteArray := ⟨#[59]⟩
def headS (n e : Int) : ByteArray := itoaB n ++ semi ++ itoaB e ++ semi
theorem headS_size {n e : Int} (h0 : -9223372036854775808 ≤ n) (h1 : n ≤ 9223372036854775807) (k0 : -9223372036854775808 ≤ e) (k1 : e ≤ 9223372036854775807) : (headS n e).size ≤ 42 := by
  have a := itoaB_size h0 h1
  have b := itoaB_size k0 k1
  have c : semi.size = 1 := rfl
  unfold headS
  rw [ByteArray.size_append, ByteArray.size_append, ByteArray.size_append]
  omega

set_option maxHeartbeats 400000 in
theorem l2Head_any (n e : Int) (b : ByteArray) (w : World) (h0 : -9223372036854775808 ≤ n) (h1 : n ≤ 9223372036854775807) (k0 : -9223372036854775808 ≤ e) (k1 : e ≤ 9223372036854775807) :
    Calls Try.prog 53 #[.int .i64 n, .int .i64 e, .string b] w fun x w' => x = .returned (.string (headS n e)) ∧ Below w.heap.size w w' := by
  have s1 := itoaB_size h0 h1
  have s2 := itoaB_size k0 k1
  go_enter Try.func53, Try.ntmps53
  go_wp2_with (fail)
  refine (l2Int_any n _ h0 h1).mono ?_
  rintro x w1 ⟨rfl, hb1⟩
  have e1 : (⟨(Lib.itoa n).toArray⟩ : ByteArray) = itoaB n := rfl
  rw [e1]
  have g1 : (itoaB n ++ semi).size ≤ 21 := by rw [ByteArray.size_append]; have c : semi.size = 1 := rfl; omega
  go_wp2_with (fail)
  refine (l2Int_any e _ k0 k1).mono ?_
  rintro x w2 ⟨rfl, hb2⟩
  have e2 : (⟨(Lib.itoa e).toArray⟩ : ByteArray) = itoaB e := rfl
  rw [e2]
  go_wp2
  go_ret
  exact ⟨rfl, bel_after hb1 hb2⟩

def packS (n e : Int) (b : ByteArray) : ByteArray := ⟨#[80]⟩ ++ headS n e ++ itoaB (crcS (headS n e ++ b)) ++ semi ++ b
def packT (n e : Int) (b : ByteArray) : ByteArray := if pgOk n e b = true then packS n e b else ⟨#[]⟩

set_option maxHeartbeats 400000 in
theorem packPage_any (n e : Int) (b : ByteArray) (w : World) :
    Calls Try.prog 47 #[.int .i64 n, .int .i64 e, .string b] w fun x w' => x = .returned (.tuple #[.string (packT n e b), .bool (pgOk n e b)]) ∧ Below w.heap.size w w' := by
  go_enter Try.func47, Try.ntmps47
  go_wp2_with (fail)
  refine (l2Range_any _ _ _ _).mono ?_
  rintro x w1 ⟨rfl, rfl⟩
  cases h : pgOk n e b
  · have H : Hid (pgOk n e b = false) := h
    clear h
    go_wp2
    exact bodyPost_ret (v := .tuple #[.string ⟨#[]⟩, .bool false]) (by simp [results, Try.results47, go_sem]) rfl ⟨by unfold packT; rw [H.out]; rfl, Below.refl _ _⟩
  have H : Hid (pgOk n e b = true) := h
  obtain ⟨r1, r2, r3, r4, r5⟩ := pgOk_range h
  clear h
  have sh := headS_size (n := n) (e := e) (by omega) (by omega) (by omega) (by omega)
  obtain ⟨c1, c2⟩ := crcS_range (headS n e ++ b)
  have si := itoaB_size (n := crcS (headS n e ++ b)) (by omega) (by omega)
  have sz : (headS n e ++ b).size ≤ 1000 := by rw [ByteArray.size_append]; omega
  go_wp2_with (fail)
  refine (l2Head_any n e b _ (by omega) (by omega) (by omega) (by omega)).mono ?_
  rintro x w2 ⟨rfl, hb2⟩
  go_wp2_with (fail)
  refine (crc_any _ _ (by omega)).mono ?_
  rintro x w3 ⟨rfl, rfl⟩
  go_wp2_with (fail)
  refine (l2Int_any _ _ (by omega) (by omega)).mono ?_
  rintro x w4 ⟨rfl, hb4⟩
  have e2 : (⟨(Lib.itoa (crcS (headS n e ++ b))).toArray⟩ : ByteArray) = itoaB (crcS (headS n e ++ b)) := rfl
  rw [e2]
  clear e2
  generalize hcc : crcS (headS n e ++ b) = cc at *
  have HC : Hid (crcS (headS n e ++ b) = cc) := hcc
  clear hcc
  go_wp2
  exact bodyPost_ret (v := .tuple #[.string (⟨#[80]⟩ ++ headS n e ++ itoaB cc ++ ⟨#[59]⟩ ++ b), .bool true]) (by simp [results, Try.results47, go_sem]) rfl ⟨by unfold packT packS; rw [H.out, HC.out]; rfl, bel_after hb2 hb4⟩

end Go.Proofs.Ytddocjmjianajaa

/- strconv.FormatInt and strconv.Itoa at base 10, by the shelf, and the table that they read. -/
namespace Go.Proofs.Ytddocjmjianajaa
open Go.RowKit

end Go.Proofs.Ytddocjmjianajaa

/- The sum of a text by bytes: what a byte's sum and the rest of the number make together. -/
namespace Go.Proofs.Ytddocjmjianajaa
open Go.RowKit

theorem half_xor (a b : Nat) : (a ^^^ b) / 2 = (a / 2) ^^^ (b / 2) := by
  apply Nat.eq_of_testBit_eq
  intro i
  rw [Nat.testBit_div_two, Nat.testBit_xor, Nat.testBit_xor, Nat.testBit_div_two, Nat.testBit_div_two]
theorem crcBit_xor (a b : Nat) : crcBit (a ^^^ b) = crcBit a ^^^ crcBit b := by
  have h := @Nat.xor_mod_two_eq_one a b
  unfold crcBit
  rw [half_xor]
  generalize a / 2 = x
  generalize b / 2 = y
  by_cases ha : a % 2 = 1 <;> by_cases hb : b % 2 = 1
  · rw [if_neg (by rw [h]; simp [ha, hb]), if_pos ha, if_pos hb, Nat.xor_assoc x, Nat.xor_comm 3988292384, Nat.xor_assoc y, Nat.xor_self, Nat.xor_zero]
  · rw [if_pos (by rw [h]; simp [ha, hb]), if_pos ha, if_neg hb, Nat.xor_assoc, Nat.xor_assoc, Nat.xor_comm y]
  · rw [if_pos (by rw [h]; simp [ha, hb]), if_neg ha, if_pos hb, Nat.xor_assoc]
  · rw [if_neg (by rw [h]; simp [ha, hb]), if_neg ha, if_neg hb]
theorem crcBits_xor (a b : Nat) : ∀ k, crcBits k (a ^^^ b) = crcBits k a ^^^ crcBits k b
  | 0 => rfl
  | k + 1 => by
    show crcBit (crcBits k (a ^^^ b)) = crcBit (crcBits k a) ^^^ crcBit (crcBits k b)
    rw [crcBits_xor a b k, crcBit_xor]
theorem crcBit_even (q : Nat) : crcBit (q * 2) = q := by
  unfold crcBit
  rw [if_neg (by omega)]
  omega
theorem crcBits_high (q : Nat) : crcBits 8 (q * 256) = q := by
  show crcBit (crcBit (crcBit (crcBit (crcBit (crcBit (crcBit (crcBit (q * 256)))))))) = q
  rw [show q * 256 = q * 128 * 2 from by omega, crcBit_even, show q * 128 = q * 64 * 2 from by omega, crcBit_even, show q * 64 = q * 32 * 2 from by omega, crcBit_even,
    show q * 32 = q * 16 * 2 from by omega, crcBit_even, show q * 16 = q * 8 * 2 from by omega, crcBit_even, show q * 8 = q * 4 * 2 from by omega, crcBit_even,
    show q * 4 = q * 2 * 2 from by omega, crcBit_even, crcBit_even]
theorem parts_xor (c : Nat) : c = (c % 256) ^^^ (c / 256 * 256) := by
  apply Nat.eq_of_testBit_eq
  intro i
  rw [Nat.testBit_xor, show (256 : Nat) = 2 ^ 8 from rfl, Nat.testBit_mod_two_pow, Nat.testBit_mul_two_pow, Nat.testBit_div_two_pow]
  by_cases h : i < 8
  · have : ¬ 8 ≤ i := by omega
    simp [h, this]
  · have h8 : 8 ≤ i := by omega
    simp [h, h8, show i - 8 + 8 = i from by omega]
/-- A round of the sum, by the byte's own sum. -/
theorem crcByte_table (c : Nat) (b : UInt8) : crcByte c b = crcBits 8 ((c % 256) ^^^ b.toNat) ^^^ (c / 256) := by
  unfold crcByte
  have e : c ^^^ b.toNat = ((c % 256) ^^^ b.toNat) ^^^ (c / 256 * 256) := by
    conv => lhs; rw [parts_xor c]
    rw [Nat.xor_assoc, Nat.xor_comm (c / 256 * 256), Nat.xor_assoc]
  rw [e, crcBits_xor, crcBits_high]

theorem xor32 (a b : Nat) (ha : a < 4294967296) (hb : b < 4294967296) : bits .xor .u32 (a : Int) (b : Int) = ((a ^^^ b : Nat) : Int) := by
  have hx : a ^^^ b < 4294967296 := Nat.xor_lt_two_pow (n := 32) (by omega) (by omega)
  unfold bits
  show IntKind.wrap .u32 ((BitVec.ofInt 32 (a : Int) ^^^ BitVec.ofInt 32 (b : Int)).toNat : Int) = _
  rw [BitVec.toNat_xor, BitVec.ofInt_natCast, BitVec.ofInt_natCast, BitVec.toNat_ofNat, BitVec.toNat_ofNat, Nat.mod_eq_of_lt (by omega), Nat.mod_eq_of_lt (by omega)]
  simp [IntKind.wrap, IntKind.bits, IntKind.signed]
  omega
theorem xor8 (a b : Nat) (ha : a < 256) (hb : b < 256) : bits .xor .u8 (a : Int) (b : Int) = ((a ^^^ b : Nat) : Int) := by
  have hx : a ^^^ b < 256 := Nat.xor_lt_two_pow (n := 8) (by omega) (by omega)
  unfold bits
  show IntKind.wrap .u8 ((BitVec.ofInt 8 (a : Int) ^^^ BitVec.ofInt 8 (b : Int)).toNat : Int) = _
  rw [BitVec.toNat_xor, BitVec.ofInt_natCast, BitVec.ofInt_natCast, BitVec.toNat_ofNat, BitVec.toNat_ofNat, Nat.mod_eq_of_lt (by omega), Nat.mod_eq_of_lt (by omega)]
  simp [IntKind.wrap, IntKind.bits, IntKind.signed]
  omega

end Go.Proofs.Ytddocjmjianajaa

/- The program's own sum of a text. -/
namespace Go.Proofs.Ytddocjmjianajaa
open Go.RowKit



end Go.Proofs.Ytddocjmjianajaa

/- pageHead of the program. -/
namespace Go.Proofs.Ytddocjmjianajaa
open Go.RowKit

theorem cell_later {w w' : World} {b o : Nat} {v : Value} (hb : Below w.heap.size w w') (h : w.cell? ⟨b, o, none⟩ = some v) : w'.cell? ⟨b, o, none⟩ = some v := by
  have hlt : b < w.heap.size := by
    rcases Nat.lt_or_ge b w.heap.size with h' | h'
    · exact h'
    · simp [World.cell?, Array.getElem?_eq_none h'] at h
  rw [hb.cell (p := ⟨b, o, none⟩) hlt]
  exact h
theorem bel_one (w : World) (o : Obj) : Below w.heap.size w (w.alloc o) := (Below.refl _ _).alloc (Nat.le_refl _) _
/-- Two cells of a box, whatever came later. -/
theorem keep2 {W a b : World} {N i j : Nat} {u v : Value} (k : Below a.heap.size a b) (h : Below W.heap.size W a ∧ a.cell? ⟨N, i, none⟩ = some u ∧ a.cell? ⟨N, j, none⟩ = some v) :
    Below W.heap.size W b ∧ b.cell? ⟨N, i, none⟩ = some u ∧ b.cell? ⟨N, j, none⟩ = some v :=
  ⟨bel_after h.1 k, cell_later k h.2.1, cell_later k h.2.2⟩
theorem keep4 {W a b : World} {N : Nat} {u v x y : Value} (k : Below a.heap.size a b) (h : Below W.heap.size W a ∧ a.cell? ⟨N, 0, none⟩ = some u ∧ a.cell? ⟨N, 1, none⟩ = some v ∧ a.cell? ⟨N, 2, none⟩ = some x ∧ a.cell? ⟨N, 3, none⟩ = some y) :
    Below W.heap.size W b ∧ b.cell? ⟨N, 0, none⟩ = some u ∧ b.cell? ⟨N, 1, none⟩ = some v ∧ b.cell? ⟨N, 2, none⟩ = some x ∧ b.cell? ⟨N, 3, none⟩ = some y :=
  ⟨bel_after h.1 k, cell_later k h.2.1, cell_later k h.2.2.1, cell_later k h.2.2.2.1, cell_later k h.2.2.2.2⟩
/-- A page as the program holds it. -/
def pageV (n e s : Int) (b : ByteArray) : Value := .agg #[.int .i64 n, .int .i64 e, .int .i64 s, .string b]


theorem pageSum_size {n e : Int} {b : ByteArray} (h0 : -9223372036854775808 ≤ n) (h1 : n ≤ 9223372036854775807) (k0 : -9223372036854775808 ≤ e) (k1 : e ≤ 9223372036854775807) : (headS n e ++ b).size ≤ 42 + b.size := by
  have := headS_size h0 h1 k0 k1
  rw [ByteArray.size_append]
  omega


end Go.Proofs.Ytddocjmjianajaa

/- Rows of numbers: what a slice reads as; toInt64S, eqInt64S, slices.Index, slices.Contains. -/
namespace Go.Proofs.Ytddocjmjianajaa
open Go.RowKit

/-- The numbers that a slice reads as. -/
def IR (w : World) (v : Value) (l : List Int) : Prop :=
  ∃ ao cap, v = .slice ao l.length cap ∧ l.length ≤ cap ∧ ∀ i, i < l.length → ∃ b o, ao = some ⟨b, o, none⟩ ∧ w.cell? ⟨b, o + i, none⟩ = some (.int .i64 (l.getD i 0))
theorem IR.later {w w' : World} {v : Value} {l : List Int} (h : IR w v l) (hb : Below w.heap.size w w') : IR w' v l := by
  obtain ⟨ao, cap, rfl, hle, h⟩ := h
  exact ⟨ao, cap, rfl, hle, fun i hi => by obtain ⟨b, o, e, hc⟩ := h i hi; exact ⟨b, o, e, cell_later hb hc⟩⟩

theorem ilists_eq {a b : List Int} (hl : a.length = b.length) (h : ∀ j, j < a.length → a.getD j 0 = b.getD j 0) : a = b := by
  refine List.ext_getElem hl fun i h1 h2 => ?_
  have := h i h1
  simpa [List.getD_eq_getElem?_getD, h1, h2] using this
theorem all_upto {p : Nat → Prop} {k : Nat} (h : ∀ j, j < k → p j) (hk : p k) : ∀ j, j < k + 1 → p j := fun j hj => by
  by_cases e : j = k
  · subst e; exact hk
  · exact h j (by omega)
theorem ret_bool {a b : Bool} (h : a = b) : Ending.returned (.bool a) = .returned (.bool b) := by rw [h]
theorem below_drewN {B : Nat} {a w : World} (h : Below B a w) (n : Nat) : Below B a (w.drewN n) := ⟨h.os, h.tape, h.output, h.size, h.block⟩

theorem Try.info2 : (Try.prog.info? 2).map (fun i => (i.zero, i.size, i.bytes)) = some (some (.int .i64 0), 1, 8) := by kernel_rfl
theorem make28 (n : Nat) (hn : n ≤ 10000000000000) (w : World) : (Instr.makeSlice 48 (.int .i64 (n : Int)) (.int .i64 (n : Int))).run Try.prog w = .ok (.slice (some ⟨w.heap.size, 0, none⟩) n n) (w.alloc (.cells (madeCells #[.int .i64 0] n) 2)) :=
  run_make_row' (P := Try.prog) 48 2 (.int .i64 0) 8 Try.underlying48 Try.info2 rfl .i64 .i64 n (by omega) (by omega) w
theorem row_any (w : World) (C : Array Value) (t : TypeId) : (w.alloc (.cells C t)).rowIs w.heap.size t C.size (fun i => C[i]?.getD undef) :=
  World.rowIs_alloc w C t _ (fun i hi => by simp [hi])
theorem made_ints (w : World) (n : Nat) : ∃ f, (w.alloc (.cells (madeCells #[.int .i64 0] n) 2)).rowIs w.heap.size 2 n f := by
  have h := row_any w (madeCells #[.int .i64 0] n) 2
  rw [size_madeCells] at h
  exact ⟨_, h⟩
theorem row_copy {w : World} {b N j : Nat} {t : TypeId} {g f : Nat → Value} (h : w.rowIs b t N (fun i => if i < j then g i else f i)) (v : Value) (hv : v = g j) :
    (w.setCell ⟨b, j, none⟩ v).rowIs b t N (fun i => if i < j + 1 then g i else f i) := by
  refine (h.set j _).congr fun i _ => ?_
  by_cases e : i = j
  · subst e; simp [hv]
  · by_cases e' : i < j
    · rw [if_neg e, if_pos e', if_pos (by omega)]
    · rw [if_neg e, if_neg e', if_neg (by omega)]
def icell (l : List Int) (i : Nat) : Value := .int .i64 (l.getD i 0)


theorem not_mem_of {l : List Int} {x : Int} (h : ∀ j, j < l.length → l.getD j 0 ≠ x) : l.contains x = false := by
  rw [Bool.eq_false_iff]
  intro hc
  rw [List.contains_iff_mem] at hc
  obtain ⟨i, hi, e⟩ := List.getElem_of_mem hc
  exact h i hi (by simp [hi, e])
theorem mem_of {l : List Int} {x : Int} {k : Nat} (hk : k < l.length) (h : l.getD k 0 = x) : l.contains x = true := by
  rw [List.contains_iff_mem, ← h]
  simp [hk]



end Go.Proofs.Ytddocjmjianajaa

/- l2Number of the model: a numeral read. -/
namespace Go.Proofs.Ytddocjmjianajaa
open Go.RowKit

def negB (s : ByteArray) : Bool := s.data.toList.head? == some 45
def offN (s : ByteArray) : Nat := if negB s = true then 1 else 0
def bodyN (s : ByteArray) : List UInt8 := s.data.toList.drop (offN s)
def isDig (b : UInt8) : Bool := decide (48 ≤ b.toNat ∧ b.toNat ≤ 57)
def dsv (l : List UInt8) : Nat := l.foldl (fun n b => n * 10 + (b.toNat - 48)) 0
def numIs (s : ByteArray) (most : Nat) : Bool := decide (1 ≤ (bodyN s).length ∧ (bodyN s).length ≤ most) && (bodyN s).all isDig && !((bodyN s).head? == some 48 && (negB s || decide (1 < s.size)))
def numV (s : ByteArray) (most : Nat) : Int := if numIs s most = true then (if negB s = true then -(dsv (bodyN s) : Int) else dsv (bodyN s)) else 0

theorem dsv_succ (l : List UInt8) (k : Nat) (h : k < l.length) : dsv (l.take (k + 1)) = dsv (l.take k) * 10 + (l[k].toNat - 48) := by
  unfold dsv
  rw [List.take_succ_eq_append_getElem h, List.foldl_append]
  rfl
theorem dsv_lt : ∀ (l : List UInt8), l.all isDig = true → dsv l < 10 ^ l.length := by
  intro l hl
  have key : ∀ (l : List UInt8) (c k : Nat), l.all isDig = true → c < 10 ^ k → l.foldl (fun n b => n * 10 + (b.toNat - 48)) c < 10 ^ (k + l.length) := by
    intro l
    induction l with
    | nil => intro c k _ h; exact h
    | cons x r ih =>
      intro c k ha h
      simp only [List.all_cons, Bool.and_eq_true] at ha
      obtain ⟨hx, hr⟩ := ha
      unfold isDig at hx
      simp at hx
      have h2 : c * 10 + (x.toNat - 48) < 10 ^ (k + 1) := by rw [Nat.pow_succ]; omega
      have h3 := ih (c * 10 + (x.toNat - 48)) (k + 1) hr h2
      rw [List.length_cons, List.foldl_cons]
      rw [show k + (r.length + 1) = k + 1 + r.length from by omega]
      exact h3
  have h := key l 0 0 hl (by simp)
  rw [Nat.zero_add] at h
  exact h
theorem numV_not {s : ByteArray} {most : Nat} (h : numIs s most = false) : numV s most = 0 := by unfold numV; rw [if_neg (by rw [h]; simp)]

theorem body_len (s : ByteArray) : (bodyN s).length = s.size - offN s := by
  unfold bodyN
  rw [List.length_drop, Array.length_toList]
  rfl
theorem body_get (s : ByteArray) (k : Nat) (h : k < s.size) (ho : offN s ≤ k) : ∃ h', (bodyN s)[k - offN s]'h' = s[k] := by
  have hl := body_len s
  refine ⟨by omega, ?_⟩
  unfold bodyN
  rw [List.getElem_drop]
  simp only [show offN s + (k - offN s) = k from by omega]
  rw [Array.getElem_toList]
  rfl

theorem body_head (s : ByteArray) (h : offN s < s.size) : (bodyN s).head? = some s[offN s] := by
  obtain ⟨h', e⟩ := body_get s (offN s) h (Nat.le_refl _)
  rw [← e]
  simp only [Nat.sub_self]
  rw [List.head?_eq_getElem?]
  exact List.getElem?_eq_getElem _
theorem neg_head (s : ByteArray) (h : 0 < s.size) : negB s = decide (s[0].toNat = 45) := by
  unfold negB
  have e : s.data.toList.head? = some s[0] := by
    rw [List.head?_eq_getElem?]
    have h2 : 0 < s.data.toList.length := by rw [Array.length_toList]; exact h
    rw [List.getElem?_eq_getElem h2, Array.getElem_toList]
    rfl
  rw [e]
  by_cases hb : s[0].toNat = 45
  · have : s[0] = 45 := UInt8.toNat_inj.1 hb
    simp [this]
  · have : ¬ s[0] = 45 := fun e => hb (by rw [e]; rfl)
    simp [this, hb]
theorem numIs_len {s : ByteArray} {most : Nat} (h : ¬ (1 ≤ (bodyN s).length ∧ (bodyN s).length ≤ most)) : numIs s most = false := by
  unfold numIs
  rw [decide_eq_false h]
  rfl
theorem numIs_dig {s : ByteArray} {most k : Nat} (hk : k < s.size) (ho : offN s ≤ k) (h : isDig s[k] = false) : numIs s most = false := by
  unfold numIs
  have h2 : (bodyN s).all isDig = false := by
    obtain ⟨h', e⟩ := body_get s k hk ho
    rw [List.all_eq_false]
    exact ⟨_, List.getElem_mem h', by rw [e, h]; simp⟩
  rw [h2]
  simp
theorem numIs_end {s : ByteArray} {most : Nat} (h1 : 1 ≤ (bodyN s).length ∧ (bodyN s).length ≤ most) (h2 : (bodyN s).all isDig = true) (ho : offN s < s.size) : numIs s most = !(decide (s[offN s].toNat = 48) && (negB s || decide (1 < s.size))) := by
  unfold numIs
  rw [decide_eq_true h1, h2, body_head s ho]
  have : (some s[offN s] == some (48 : UInt8)) = decide (s[offN s].toNat = 48) := by
    by_cases hb : s[offN s].toNat = 48
    · have : s[offN s] = 48 := UInt8.toNat_inj.1 hb
      simp [this]
    · have : ¬ s[offN s] = 48 := fun e => hb (by rw [e]; rfl)
      simp [this, hb]
  rw [this]
  simp
theorem numIs_at {s : ByteArray} {most o : Nat} (eo : offN s = o) (ho : o < s.size) (h1 : 1 ≤ (bodyN s).length ∧ (bodyN s).length ≤ most) (h2 : (bodyN s).all isDig = true) : numIs s most = !(decide (s[o].toNat = 48) && (negB s || decide (1 < s.size))) := by
  subst eo
  exact numIs_end h1 h2 ho
theorem numV_is {s : ByteArray} {most : Nat} (h : numIs s most = true) : numV s most = if negB s = true then -(dsv (bodyN s) : Int) else dsv (bodyN s) := by unfold numV; rw [if_pos h]
theorem take_body (s : ByteArray) : (bodyN s).take (s.size - offN s) = bodyN s := List.take_of_length_le (by rw [body_len]; exact Nat.le_refl _)

theorem all_snoc {s : ByteArray} {k : Nat} (hk : k < s.size) (ho : offN s ≤ k) (h : ((bodyN s).take (k - offN s)).all isDig = true) (hd : isDig s[k] = true) : ((bodyN s).take (k + 1 - offN s)).all isDig = true := by
  obtain ⟨h', e⟩ := body_get s k hk ho
  rw [show k + 1 - offN s = k - offN s + 1 from by omega, List.take_succ_eq_append_getElem h', List.all_append, h, e]
  simp [hd]
theorem dsv_snoc {s : ByteArray} {k : Nat} (hk : k < s.size) (ho : offN s ≤ k) : dsv ((bodyN s).take (k + 1 - offN s)) = dsv ((bodyN s).take (k - offN s)) * 10 + (s[k].toNat - 48) := by
  obtain ⟨h', e⟩ := body_get s k hk ho
  rw [show k + 1 - offN s = k - offN s + 1 from by omega, dsv_succ _ _ h', e]
theorem dsv_small {s : ByteArray} {k : Nat} (h : ((bodyN s).take (k - offN s)).all isDig = true) (hk : k - offN s ≤ 17) : dsv ((bodyN s).take (k - offN s)) < 100000000000000000 := by
  have h1 := dsv_lt _ h
  have h2 : ((bodyN s).take (k - offN s)).length ≤ 17 := by rw [List.length_take]; omega
  have h3 := Nat.pow_le_pow_right (n := 10) (by omega) h2
  omega
theorem dsv_full {s : ByteArray} {most : Nat} (hm : most ≤ 18) (h : (bodyN s).all isDig = true) (hk : (bodyN s).length ≤ most) : dsv (bodyN s) < 1000000000000000000 := by
  have h1 := dsv_lt _ h
  have h3 := Nat.pow_le_pow_right (n := 10) (by omega) (Nat.le_trans hk hm)
  omega

set_option maxRecDepth 100000 in
set_option maxHeartbeats 1000000 in
theorem l2Number_pos (s : ByteArray) (most : Nat) (w : World) (hs : s.size ≤ 1000000000000) (hm : most ≤ 18) (he : s ≠ ⟨#[]⟩) (hp : 0 < s.size) (hneg : negB s = false) :
    Calls Try.prog 56 #[.string s, .int .i64 most] w fun x w' => x = .returned (.tuple #[.int .i64 (numV s most), .bool (numIs s most)]) ∧ w' = w := by
  have q1 := str_nil he
  have q2 : s.toList.isEmpty = false := by simpa using q1
  have ho : offN s = 0 := by unfold offN; rw [hneg]; rfl
  have HO : Hid (offN s = 0) := ho
  have HNG : Hid (negB s = false) := hneg
  have t0 : ((s[0].toNat : Int) == 45) = false := by
    have h := neg_head s hp
    rw [hneg] at h
    have := of_decide_eq_false h.symm
    simp
    omega
  have hbl := body_len s
  rw [ho, Nat.sub_zero] at hbl
  have HBL : Hid ((bodyN s).length = s.size) := hbl
  clear ho hneg hbl he
  by_cases hl : s.size ≤ most
  · have h1i : ¬ (s.size : Int) < 1 := by omega
    have h2i : ¬ (most : Int) < (s.size : Int) := by omega
    go_enter Try.func56, Try.ntmps56
    go_wp2
    go_loopw [8, 9] (fun n kv wr => ∃ k : Nat, k ≤ s.size ∧ kv = .int .i64 k ∧ n = .int .i64 (dsv ((bodyN s).take (k - offN s)) : Nat) ∧ Hid (((bodyN s).take (k - offN s)).all isDig = true) ∧ wr = w) (fun _ kv _ => s.size - (intOf kv).toNat)
    case atStart => exact ⟨0, by omega, rfl, by rw [HO.out]; rfl, (by rw [HO.out]; rfl : ((bodyN s).take (0 - offN s)).all isDig = true), rfl⟩
    case round =>
      obtain ⟨k, hk, rfl, rfl, ha, rfl⟩ := hrel
      by_cases hlt : k < s.size
      · have HE : Hid (dsv ((bodyN s).take (k + 1 - offN s)) = dsv ((bodyN s).take (k - offN s)) * 10 + (s[k].toNat - 48)) := dsv_snoc hlt (by rw [HO.out]; omega)
        have hsm := dsv_small ha.out (by rw [HO.out]; omega)
        generalize dsv ((bodyN s).take (k - offN s)) = n at *
        by_cases hlo : s[k].toNat < 48
        · have G : Hid (numIs s most = false) := numIs_dig hlt (by rw [HO.out]; omega) (by unfold isDig; simp; omega)
          go_wp2
          exact bodyPost_ret (v := .tuple #[.int .i64 0, .bool false]) (by simp [results, Try.results56, go_sem]) rfl ⟨by rw [numV_not G.out, G.out], rfl⟩
        by_cases hhi : 57 < s[k].toNat
        · have G : Hid (numIs s most = false) := numIs_dig hlt (by rw [HO.out]; omega) (by unfold isDig; simp; omega)
          go_wp2
          exact bodyPost_ret (v := .tuple #[.int .i64 0, .bool false]) (by simp [results, Try.results56, go_sem]) rfl ⟨by rw [numV_not G.out, G.out], rfl⟩
        have HA : Hid (((bodyN s).take (k + 1 - offN s)).all isDig = true) := all_snoc hlt (by rw [HO.out]; omega) ha.out (by unfold isDig; simp; omega)
        go_wp2
        go_roundw
        case rel => exact ⟨k + 1, by omega, by go_num, congrArg (Value.int .i64) (by rw [HE.out]; omega), HA, trivial⟩
        case measure => simp [intOf]; omega
      · obtain rfl : k = s.size := by omega
        have ha' := ha.out
        rw [take_body] at ha' ⊢
        have hdf := dsv_full hm ha' (by rw [HBL.out]; exact hl)
        have G := numIs_at (most := most) HO.out hp ⟨by rw [HBL.out]; omega, by rw [HBL.out]; exact hl⟩ ha'
        rw [HNG.out] at G
        have HG : Hid (numIs s most = !(decide (s[0].toNat = 48) && (false || decide (1 < s.size)))) := G
        clear G ha'
        by_cases hz : s[0].toNat = 48
        · have hzi : (s[0].toNat : Int) = 48 := by omega
          by_cases h1s : 1 < s.size
          · have G : Hid (numIs s most = false) := (by rw [HG.out]; simp [hz, h1s] : numIs s most = false)
            have h1i : (1 : Int) < (s.size : Int) := by omega
            go_wp2
            exact bodyPost_ret (v := .tuple #[.int .i64 0, .bool false]) (by simp [results, Try.results56, go_sem]) rfl ⟨by rw [numV_not G.out, G.out], rfl⟩
          · have G : Hid (numIs s most = true) := (by rw [HG.out]; simp [h1s] : numIs s most = true)
            have h1i : ¬ (1 : Int) < (s.size : Int) := by omega
            go_wp2
            exact bodyPost_ret (v := .tuple #[.int .i64 (dsv (bodyN s) : Nat), .bool true]) (by simp [results, Try.results56, go_sem]) rfl ⟨by rw [numV_is G.out, G.out, HNG.out]; rfl, rfl⟩
        · have G : Hid (numIs s most = true) := (by rw [HG.out]; simp [hz] : numIs s most = true)
          have hzi : ¬ (s[0].toNat : Int) = 48 := by omega
          go_wp2
          exact bodyPost_ret (v := .tuple #[.int .i64 (dsv (bodyN s) : Nat), .bool true]) (by simp [results, Try.results56, go_sem]) rfl ⟨by rw [numV_is G.out, G.out, HNG.out]; rfl, rfl⟩
  · have G : Hid (numIs s most = false) := numIs_len (by rw [HBL.out]; omega)
    go_enter Try.func56, Try.ntmps56
    go_wp2
    exact bodyPost_ret (v := .tuple #[.int .i64 0, .bool false]) (by simp [results, Try.results56, go_sem]) rfl ⟨by rw [numV_not G.out, G.out], rfl⟩

set_option maxRecDepth 100000 in
set_option maxHeartbeats 1000000 in
theorem l2Number_neg (s : ByteArray) (most : Nat) (w : World) (hs : s.size ≤ 1000000000000) (hm : most ≤ 18) (he : s ≠ ⟨#[]⟩) (hp : 0 < s.size) (hneg : negB s = true) :
    Calls Try.prog 56 #[.string s, .int .i64 most] w fun x w' => x = .returned (.tuple #[.int .i64 (numV s most), .bool (numIs s most)]) ∧ w' = w := by
  have q1 := str_nil he
  have q2 : s.toList.isEmpty = false := by simpa using q1
  have ho : offN s = 1 := by unfold offN; rw [hneg]; rfl
  have HO : Hid (offN s = 1) := ho
  have HNG : Hid (negB s = true) := hneg
  have t0 : ((s[0].toNat : Int) == 45) = true := by
    have h := neg_head s hp
    rw [hneg] at h
    have := of_decide_eq_true h.symm
    simp
    omega
  have hbl := body_len s
  rw [ho] at hbl
  have HBL : Hid ((bodyN s).length = s.size - 1) := hbl
  clear ho hneg hbl he
  by_cases hl : 2 ≤ s.size ∧ s.size - 1 ≤ most
  · go_enter Try.func56, Try.ntmps56
    go_wp2
    go_loopw [8, 9] (fun n kv wr => ∃ k : Nat, 1 ≤ k ∧ k ≤ s.size ∧ kv = .int .i64 k ∧ n = .int .i64 (dsv ((bodyN s).take (k - offN s)) : Nat) ∧ Hid (((bodyN s).take (k - offN s)).all isDig = true) ∧ wr = w) (fun _ kv _ => s.size - (intOf kv).toNat)
    case atStart => exact ⟨1, by omega, by omega, rfl, by rw [HO.out]; rfl, (by rw [HO.out]; rfl : ((bodyN s).take (1 - offN s)).all isDig = true), rfl⟩
    case round =>
      obtain ⟨k, hk1, hk, rfl, rfl, ha, rfl⟩ := hrel
      by_cases hlt : k < s.size
      · have HE : Hid (dsv ((bodyN s).take (k + 1 - offN s)) = dsv ((bodyN s).take (k - offN s)) * 10 + (s[k].toNat - 48)) := dsv_snoc hlt (by rw [HO.out]; omega)
        have hsm := dsv_small ha.out (by rw [HO.out]; omega)
        generalize dsv ((bodyN s).take (k - offN s)) = n at *
        by_cases hlo : s[k].toNat < 48
        · have G : Hid (numIs s most = false) := numIs_dig hlt (by rw [HO.out]; omega) (by unfold isDig; simp; omega)
          go_wp2
          exact bodyPost_ret (v := .tuple #[.int .i64 0, .bool false]) (by simp [results, Try.results56, go_sem]) rfl ⟨by rw [numV_not G.out, G.out], rfl⟩
        by_cases hhi : 57 < s[k].toNat
        · have G : Hid (numIs s most = false) := numIs_dig hlt (by rw [HO.out]; omega) (by unfold isDig; simp; omega)
          go_wp2
          exact bodyPost_ret (v := .tuple #[.int .i64 0, .bool false]) (by simp [results, Try.results56, go_sem]) rfl ⟨by rw [numV_not G.out, G.out], rfl⟩
        have HA : Hid (((bodyN s).take (k + 1 - offN s)).all isDig = true) := all_snoc hlt (by rw [HO.out]; omega) ha.out (by unfold isDig; simp; omega)
        go_wp2
        go_roundw
        case rel => exact ⟨k + 1, by omega, by omega, by go_num, congrArg (Value.int .i64) (by rw [HE.out]; omega), HA, trivial⟩
        case measure => simp [intOf]; omega
      · obtain rfl : k = s.size := by omega
        have ha' := ha.out
        rw [take_body] at ha' ⊢
        have hdf := dsv_full hm ha' (by rw [HBL.out]; exact hl.2)
        have G := numIs_at (most := most) HO.out (by omega) ⟨by rw [HBL.out]; omega, by rw [HBL.out]; exact hl.2⟩ ha'
        rw [HNG.out] at G
        have HG : Hid (numIs s most = !(decide (s[1].toNat = 48) && (true || decide (1 < s.size)))) := G
        clear G ha'
        by_cases hz : s[1].toNat = 48
        · have hzi : (s[1].toNat : Int) = 48 := by omega
          have G : Hid (numIs s most = false) := (by rw [HG.out]; simp [hz] : numIs s most = false)
          go_wp2
          exact bodyPost_ret (v := .tuple #[.int .i64 0, .bool false]) (by simp [results, Try.results56, go_sem]) rfl ⟨by rw [numV_not G.out, G.out], rfl⟩
        · have G : Hid (numIs s most = true) := (by rw [HG.out]; simp [hz] : numIs s most = true)
          have hzi : ¬ (s[1].toNat : Int) = 48 := by omega
          go_wp2
          exact bodyPost_ret (v := .tuple #[.int .i64 (-(dsv (bodyN s) : Int)), .bool true]) (by simp [results, Try.results56, go_sem]) rfl ⟨by rw [numV_is G.out, G.out, HNG.out]; rfl, rfl⟩
  · have G : Hid (numIs s most = false) := numIs_len (by rw [HBL.out]; omega)
    by_cases h1s : s.size = 1
    · have h1i : (s.size : Int) - 1 < 1 := by omega
      go_enter Try.func56, Try.ntmps56
      go_wp2
      exact bodyPost_ret (v := .tuple #[.int .i64 0, .bool false]) (by simp [results, Try.results56, go_sem]) rfl ⟨by rw [numV_not G.out, G.out], rfl⟩
    have h1i : ¬ (s.size : Int) - 1 < 1 := by omega
    have h2i : (most : Int) < (s.size : Int) - 1 := by omega
    go_enter Try.func56, Try.ntmps56
    go_wp2
    exact bodyPost_ret (v := .tuple #[.int .i64 0, .bool false]) (by simp [results, Try.results56, go_sem]) rfl ⟨by rw [numV_not G.out, G.out], rfl⟩

theorem l2Number_any (s : ByteArray) (most : Nat) (w : World) (hs : s.size ≤ 1000000000000) (hm : most ≤ 18) :
    Calls Try.prog 56 #[.string s, .int .i64 most] w fun x w' => x = .returned (.tuple #[.int .i64 (numV s most), .bool (numIs s most)]) ∧ w' = w := by
  by_cases he : s = ⟨#[]⟩
  · subst he
    have G : numIs ⟨#[]⟩ most = false := numIs_len (fun h => by have e : (bodyN ⟨#[]⟩).length = 0 := rfl; omega)
    rw [numV_not G, G]
    go_enter Try.func56, Try.ntmps56
    go_wp2
    exact bodyPost_ret (v := .tuple #[.int .i64 0, .bool false]) (by simp [results, Try.results56, go_sem]) rfl ⟨rfl, rfl⟩
  have hp : 0 < s.size := by have := size_pos he; omega
  cases hneg : negB s
  · exact l2Number_pos s most w hs hm he hp hneg
  · exact l2Number_neg s most w hs hm he hp hneg

end Go.Proofs.Ytddocjmjianajaa

/- l2Field of the model: a number with a ; behind it. -/
namespace Go.Proofs.Ytddocjmjianajaa
open Go.RowKit

/-- The first ; from a place on. -/
def semiAt (s : ByteArray) (a : Nat) : Option Nat := ((s.data.toList.drop a).findIdx? (· == 59)).map (· + a)
def fieldN (s : ByteArray) (a most : Nat) : Option (Int × Nat) :=
  match semiAt s a with
  | none => none
  | some i => if numIs (s.extract a i) most = true then some (numV (s.extract a i) most, i + 1) else none
def fieldV (s : ByteArray) (a most : Nat) : Int := match fieldN s a most with | none => 0 | some x => x.1
def fieldP (s : ByteArray) (a most : Nat) : Int := match fieldN s a most with | none => -1 | some x => (x.2 : Int)

theorem drop_get (s : ByteArray) (a j : Nat) (h : a + j < s.size) : ∃ h', (s.data.toList.drop a)[j]'h' = s[a + j] := by
  refine ⟨by rw [List.length_drop, Array.length_toList]; change _ < s.size - a; omega, ?_⟩
  rw [List.getElem_drop, Array.getElem_toList]
  rfl
theorem semiAt_some {s : ByteArray} {a k : Nat} (ha : a ≤ k) (hk : k < s.size) (h : s[k].toNat = 59) (hn : ∀ j (_ : a ≤ j) (h2 : j < k), ¬ (s[j]'(by omega)).toNat = 59) : semiAt s a = some k := by
  unfold semiAt
  have e : (s.data.toList.drop a).findIdx? (· == 59) = some (k - a) := by
    rw [List.findIdx?_eq_some_iff_getElem]
    obtain ⟨h', e'⟩ := drop_get s a (k - a) (by omega)
    refine ⟨h', ?_, fun j hj => ?_⟩
    · rw [e']
      have e3 : s[a + (k - a)]'(by omega) = s[k] := by congr 1; omega
      rw [e3]
      have : s[k] = 59 := UInt8.toNat_inj.1 h
      simp [this]
    · obtain ⟨h2, e2⟩ := drop_get s a j (by omega)
      rw [e2]
      have := hn (a + j) (by omega) (by omega)
      intro e4
      exact this (by have e5 : s[a + j] = 59 := by simpa using e4
                     rw [e5]; rfl)
  rw [e]
  simp
  omega
theorem semiAt_none {s : ByteArray} {a : Nat} (hn : ∀ j (_ : a ≤ j) (h2 : j < s.size), ¬ (s[j]).toNat = 59) : semiAt s a = none := by
  unfold semiAt
  have e : (s.data.toList.drop a).findIdx? (· == 59) = none := by
    rw [List.findIdx?_eq_none_iff]
    intro x hx
    obtain ⟨j, hj, rfl⟩ := List.mem_iff_getElem.1 hx
    have hj2 : a + j < s.size := by rw [List.length_drop, Array.length_toList] at hj; change j < s.size - a at hj; omega
    obtain ⟨h2, e2⟩ := drop_get s a j hj2
    rw [e2]
    have := hn (a + j) (by omega) hj2
    simp
    intro e5
    exact this (by rw [e5]; rfl)
  rw [e]
  rfl

set_option maxRecDepth 100000 in
set_option maxHeartbeats 1000000 in
theorem l2Field_any (s : ByteArray) (a most : Nat) (w : World) (hs : s.size ≤ 1000000000000) (ha : a ≤ s.size) (hm : most ≤ 18) :
    Calls Try.prog 50 #[.string s, .int .i64 a, .int .i64 most] w fun x w' => x = .returned (.tuple #[.int .i64 (fieldV s a most), .int .i64 (fieldP s a most)]) ∧ w' = w := by
  go_enter Try.func50, Try.ntmps50
  go_wp2
  go_loopw [8] (fun kv wr => ∃ k : Nat, a ≤ k ∧ k ≤ s.size ∧ kv = .int .i64 k ∧ Hid (∀ j (_ : a ≤ j) (_ : j < k) (h2 : j < s.size), ¬ (s[j]).toNat = 59) ∧ wr = w) (fun kv _ => s.size - (intOf kv).toNat)
  case atStart => exact ⟨a, Nat.le_refl _, ha, rfl, fun j h1 h2 => absurd h2 (by omega), rfl⟩
  case round =>
    obtain ⟨k, hak, hk, rfl, hn, rfl⟩ := hrel
    by_cases hlt : k < s.size
    · by_cases hb : s[k].toNat = 59
      · have HS : Hid (semiAt s a = some k) := semiAt_some hak hlt hb (fun j h1 h2 => hn.out j h1 h2 (by omega))
        have hbi : (s[k].toNat : Int) = 59 := by omega
        go_wp2_with (fail)
        refine (l2Number_any _ _ _ (by rw [ByteArray.size_extract]; omega) hm).mono ?_
        rintro x w' ⟨rfl, hw'⟩
        rw [hw']
        clear hw' w'
        cases hi : numIs (s.extract a k) most
        · have HI : Hid (numIs (s.extract a k) most = false) := hi
          clear hi
          go_wp2
          exact bodyPost_ret (v := .tuple #[.int .i64 0, .int .i64 (-1)]) (by simp [results, Try.results50, go_sem]) rfl ⟨by unfold fieldV fieldP fieldN; rw [HS.out]; simp only [HI.out]; rfl, rfl⟩
        · have HI : Hid (numIs (s.extract a k) most = true) := hi
          clear hi
          go_wp2
          exact bodyPost_ret (v := .tuple #[.int .i64 (numV (s.extract a k) most), .int .i64 ((k : Int) + 1)]) (by simp [results, Try.results50, go_sem]) rfl ⟨by unfold fieldV fieldP fieldN; rw [HS.out]; simp only [HI.out]; rfl, rfl⟩
      · have hbi : ¬ (s[k].toNat : Int) = 59 := by omega
        have HN : Hid (∀ j (_ : a ≤ j) (_ : j < k + 1) (h2 : j < s.size), ¬ (s[j]).toNat = 59) := fun j h1 h2 h3 => by
          by_cases e : j = k
          · subst e; exact hb
          · exact hn.out j h1 (by omega) h3
        go_wp2
        exact ⟨⟨k + 1, by omega, by omega, by go_num, HN, trivial⟩, by simp [intOf]; omega⟩
    · obtain rfl : k = s.size := by omega
      have HS : Hid (semiAt s a = none) := semiAt_none (fun j h1 h2 => hn.out j h1 h2 h2)
      go_wp2
      exact bodyPost_ret (v := .tuple #[.int .i64 0, .int .i64 (-1)]) (by simp [results, Try.results50, go_sem]) rfl ⟨by unfold fieldV fieldP fieldN; rw [HS.out], rfl⟩

end Go.Proofs.Ytddocjmjianajaa

/- What a text opens to, in plain words. -/
namespace Go.Proofs.Ytddocjmjianajaa
open Go.RowKit

/-- A number and the ; behind it off the head of a text: the number, and the rest. -/
def cutN (l : List UInt8) (most : Nat) : Option (Int × List UInt8) :=
  match l.findIdx? (· == 59) with
  | none => none
  | some i => if numIs ⟨(l.take i).toArray⟩ most = true then some (numV ⟨(l.take i).toArray⟩ most, l.drop (i + 1)) else none
def formN (l : List UInt8) : Option (Int × Int × Int × List UInt8) :=
  if l.head? = some 80 then
    match cutN (l.drop 1) 9 with
    | none => none
    | some (n, r1) => match cutN r1 9 with
      | none => none
      | some (e, r2) => match cutN r2 10 with
        | none => none
        | some (c, b) => some (n, e, c, b)
  else none
def bytesOf (l : List UInt8) : ByteArray := ⟨l.toArray⟩
/-- Number, epoch, body and code of a text. -/
def openR (s : ByteArray) : Int × Int × ByteArray × Int :=
  if s = ⟨#[]⟩ then (0, 0, ⟨#[]⟩, 1) else
  match formN s.data.toList with
  | none => (0, 0, ⟨#[]⟩, 2)
  | some (n, e, c, b) =>
    if pgOk n e (bytesOf b) = true then
      if crcS (headS n e ++ bytesOf b) = c then (n, e, bytesOf b, 0) else (0, 0, ⟨#[]⟩, 4)
    else (0, 0, ⟨#[]⟩, 3)
def openV (r : Int × Int × ByteArray × Int) : Value := .tuple #[.int .i64 r.1, .int .i64 r.2.1, .string r.2.2.1, .int .i64 r.2.2.2]

theorem numV_range {s : ByteArray} {most : Nat} (hm : most ≤ 18) : -1000000000000000000 ≤ numV s most ∧ numV s most ≤ 1000000000000000000 := by
  cases h : numIs s most
  · rw [numV_not h]; omega
  · rw [numV_is h]
    unfold numIs at h
    simp only [Bool.and_eq_true, decide_eq_true_eq] at h
    have := dsv_full hm h.1.2 h.1.1.2
    split <;> omega
theorem cutN_range {l r : List UInt8} {most : Nat} {n : Int} (hm : most ≤ 18) (h : cutN l most = some (n, r)) : -1000000000000000000 ≤ n ∧ n ≤ 1000000000000000000 ∧ r.length ≤ l.length := by
  unfold cutN at h
  split at h
  · simp at h
  · split at h
    · rename_i i _ _
      simp only [Option.some.injEq, Prod.mk.injEq] at h
      obtain ⟨h1, h2⟩ := h
      have := numV_range (s := ⟨(l.take i).toArray⟩) hm
      rw [← h2, List.length_drop]
      omega
    · simp at h

theorem ext_list (s : ByteArray) (a i : Nat) : s.extract a i = ⟨((s.data.toList.drop a).take (i - a)).toArray⟩ := by
  apply ByteArray.ext
  apply Array.toList_inj.1
  rw [ByteArray.data_extract, Array.toList_extract, List.extract_eq_take_drop]
theorem cut_field (s : ByteArray) (a most : Nat) : cutN (s.data.toList.drop a) most = (fieldN s a most).map (fun x => (x.1, s.data.toList.drop x.2)) := by
  unfold cutN fieldN semiAt
  cases h : (s.data.toList.drop a).findIdx? (· == 59) with
  | none => rfl
  | some i =>
    simp only [Option.map_some]
    rw [ext_list s a (i + a), show i + a - a = i from by omega]
    split
    · simp only [Option.map_some, List.drop_drop]
      rw [show i + a + 1 = a + (i + 1) from by omega]
    · rfl
theorem field_le {s : ByteArray} {a most : Nat} {n : Int} {p : Nat} (h : fieldN s a most = some (n, p)) : p ≤ s.size ∧ a < p := by
  unfold fieldN semiAt at h
  cases hf : (s.data.toList.drop a).findIdx? (· == 59) with
  | none => rw [hf] at h; simp at h
  | some i =>
    rw [hf] at h
    simp only [Option.map_some] at h
    split at h
    · simp only [Option.some.injEq, Prod.mk.injEq] at h
      obtain ⟨h', _⟩ := List.findIdx?_eq_some_iff_getElem.1 hf
      rw [List.length_drop, Array.length_toList] at h'
      change i < s.size - a at h'
      omega
    · simp at h
theorem field_range {s : ByteArray} {a most : Nat} {n : Int} {p : Nat} (hm : most ≤ 18) (h : fieldN s a most = some (n, p)) : -1000000000000000000 ≤ n ∧ n ≤ 1000000000000000000 := by
  have e := cut_field s a most
  rw [h] at e
  have := cutN_range hm e
  omega

end Go.Proofs.Ytddocjmjianajaa

/- OpenPage of the model. -/
namespace Go.Proofs.Ytddocjmjianajaa
open Go.RowKit

theorem head_is (s : ByteArray) (h : 0 < s.size) : s.data.toList.head? = some s[0] := by
  rw [List.head?_eq_getElem?]
  have h2 : 0 < s.data.toList.length := by rw [Array.length_toList]; exact h
  rw [List.getElem?_eq_getElem h2, Array.getElem_toList]
  rfl
theorem openR_form {s : ByteArray} (h0 : s ≠ ⟨#[]⟩) (h : formN s.data.toList = none) : openR s = (0, 0, ⟨#[]⟩, 2) := by unfold openR; rw [if_neg h0, h]
theorem openR_range {s : ByteArray} {n e c : Int} {b : List UInt8} (h0 : s ≠ ⟨#[]⟩) (h : formN s.data.toList = some (n, e, c, b)) (hp : pgOk n e (bytesOf b) = false) : openR s = (0, 0, ⟨#[]⟩, 3) := by
  unfold openR; rw [if_neg h0, h]; simp only; rw [if_neg (by rw [hp]; simp)]
theorem openR_sum {s : ByteArray} {n e c : Int} {b : List UInt8} (h0 : s ≠ ⟨#[]⟩) (h : formN s.data.toList = some (n, e, c, b)) (hp : pgOk n e (bytesOf b) = true) (hc : crcS (headS n e ++ bytesOf b) ≠ c) : openR s = (0, 0, ⟨#[]⟩, 4) := by
  unfold openR; rw [if_neg h0, h]; simp only; rw [if_pos hp, if_neg hc]
theorem openR_is {s : ByteArray} {n e c : Int} {b : List UInt8} (h0 : s ≠ ⟨#[]⟩) (h : formN s.data.toList = some (n, e, c, b)) (hp : pgOk n e (bytesOf b) = true) (hc : crcS (headS n e ++ bytesOf b) = c) : openR s = (n, e, bytesOf b, 0) := by
  unfold openR; rw [if_neg h0, h]; simp only; rw [if_pos hp, if_pos hc]

theorem form_no {s : ByteArray} (hp : 0 < s.size) (h : ¬ s[0].toNat = 80) : formN s.data.toList = none := by
  unfold formN
  rw [if_neg]
  rw [head_is s hp]
  intro e
  exact h (by rw [Option.some.inj e]; rfl)
theorem form_yes {s : ByteArray} (hp : 0 < s.size) (h : s[0].toNat = 80) : s.data.toList.head? = some 80 := by
  rw [head_is s hp]
  exact congrArg some (UInt8.toNat_inj.1 h)
theorem form_1 {s : ByteArray} (h : fieldN s 1 9 = none) : formN s.data.toList = none := by
  unfold formN
  rw [cut_field s 1 9, h]
  simp
theorem form_2 {s : ByteArray} {n : Int} {a : Nat} (h : fieldN s 1 9 = some (n, a)) (h2 : fieldN s a 9 = none) : formN s.data.toList = none := by
  unfold formN
  rw [cut_field s 1 9, h]
  simp only [Option.map_some]
  rw [cut_field s a 9, h2]
  simp
theorem form_3 {s : ByteArray} {n e : Int} {a b : Nat} (h : fieldN s 1 9 = some (n, a)) (h2 : fieldN s a 9 = some (e, b)) (h3 : fieldN s b 10 = none) : formN s.data.toList = none := by
  unfold formN
  rw [cut_field s 1 9, h]
  simp only [Option.map_some]
  rw [cut_field s a 9, h2]
  simp only [Option.map_some]
  rw [cut_field s b 10, h3]
  simp
theorem form_4 {s : ByteArray} {n e c : Int} {a b d : Nat} (h0 : s.data.toList.head? = some 80) (h : fieldN s 1 9 = some (n, a)) (h2 : fieldN s a 9 = some (e, b)) (h3 : fieldN s b 10 = some (c, d)) : formN s.data.toList = some (n, e, c, s.data.toList.drop d) := by
  unfold formN
  rw [if_pos h0, cut_field s 1 9, h]
  simp only [Option.map_some]
  rw [cut_field s a 9, h2]
  simp only [Option.map_some]
  rw [cut_field s b 10, h3]
  rfl

theorem fieldV_none {s : ByteArray} {a m : Nat} (h : fieldN s a m = none) : fieldV s a m = 0 ∧ fieldP s a m = -1 := by unfold fieldV fieldP; rw [h]; exact ⟨rfl, rfl⟩
theorem fieldV_some {s : ByteArray} {a m : Nat} {n : Int} {p : Nat} (h : fieldN s a m = some (n, p)) : fieldV s a m = n ∧ fieldP s a m = p := by unfold fieldV fieldP; rw [h]; exact ⟨rfl, rfl⟩
theorem drop_body (s : ByteArray) (d : Nat) : s.extract d s.size = bytesOf (s.data.toList.drop d) := by
  unfold bytesOf
  apply ByteArray.ext
  apply Array.toList_inj.1
  rw [ByteArray.data_extract, Array.toList_extract, List.extract_eq_take_drop]
  exact List.take_of_length_le (by rw [List.length_drop, Array.length_toList]; exact Nat.le_refl _)

set_option maxRecDepth 100000 in
set_option maxHeartbeats 3200000 in
theorem specOpen_any (s : ByteArray) (w : World) (hs : s.size ≤ 1000000000000) :
    Calls Try.prog 51 #[.string s] w fun x w' => x = .returned (openV (openR s)) ∧ Below w.heap.size w w' := by
  by_cases h0 : s = ⟨#[]⟩
  · subst h0
    go_enter Try.func51, Try.ntmps51
    go_wp2
    exact bodyPost_ret (v := openV (0, 0, ⟨#[]⟩, 1)) (by simp [results, Try.results51, go_sem, openV]) rfl ⟨rfl, Below.refl _ _⟩
  have hp : 0 < s.size := by have := size_pos h0; omega
  have q1 := str_nil h0
  have q2 : s.toList.isEmpty = false := by simpa using q1
  have H0 : Hid (s ≠ ⟨#[]⟩) := h0
  clear h0
  by_cases h80 : s[0].toNat = 80
  · have h80i : (s[0].toNat : Int) = 80 := by omega
    have HD : Hid (s.data.toList.head? = some 80) := form_yes hp h80
    have F1 := fun w => l2Field_any s 1 9 w hs hp (by omega)
    cases h1 : fieldN s 1 9 with
    | none =>
      obtain ⟨e1, e2⟩ := fieldV_none h1
      rw [e1, e2] at F1
      have G : Hid (openR s = (0, 0, ⟨#[]⟩, 2)) := openR_form H0.out (form_1 h1)
      clear h1 e1 e2
      go_enter Try.func51, Try.ntmps51
      go_wp2_with (go_at_call 50; refine (F1 _).mono ?_; rintro x w' ⟨rfl, rfl⟩)
      exact bodyPost_ret (v := openV (0, 0, ⟨#[]⟩, 2)) (by simp [results, Try.results51, go_sem, openV]) rfl ⟨by rw [G.out], Below.refl _ _⟩
    | some x1 =>
      obtain ⟨n, a⟩ := x1
      obtain ⟨e1, e2⟩ := fieldV_some h1
      obtain ⟨l1, l1'⟩ := field_le h1
      obtain ⟨r1, r2⟩ := field_range (by omega) h1
      have F2 := fun w => l2Field_any s a 9 w hs l1 (by omega)
      rw [e1, e2] at F1
      clear e1 e2
      go_enter Try.func51, Try.ntmps51
      go_wp2_with fail
      refine (F1 _).mono ?_
      rintro x w1 ⟨rfl, rfl⟩
      clear F1
      cases h2 : fieldN s a 9 with
      | none =>
        obtain ⟨e1, e2⟩ := fieldV_none h2
        rw [e1, e2] at F2
        have G : Hid (openR s = (0, 0, ⟨#[]⟩, 2)) := openR_form H0.out (form_2 h1 h2)
        clear h1 h2 e1 e2
        go_wp2_with (go_at_call 50; refine (F2 _).mono ?_; rintro x w' ⟨rfl, rfl⟩)
        exact bodyPost_ret (v := openV (0, 0, ⟨#[]⟩, 2)) (by simp [results, Try.results51, go_sem, openV]) rfl ⟨by rw [G.out], Below.refl _ _⟩
      | some x2 =>
        obtain ⟨e, b⟩ := x2
        obtain ⟨e1, e2⟩ := fieldV_some h2
        obtain ⟨l2, l2'⟩ := field_le h2
        obtain ⟨r3, r4⟩ := field_range (by omega) h2
        have F3 := fun w => l2Field_any s b 10 w hs l2 (by omega)
        rw [e1, e2] at F2
        clear e1 e2
        go_wp2_with fail
        refine (F2 _).mono ?_
        rintro x w2 ⟨rfl, rfl⟩
        clear F2
        cases h3 : fieldN s b 10 with
        | none =>
          obtain ⟨e1, e2⟩ := fieldV_none h3
          rw [e1, e2] at F3
          have G : Hid (openR s = (0, 0, ⟨#[]⟩, 2)) := openR_form H0.out (form_3 h1 h2 h3)
          clear h1 h2 h3 e1 e2
          go_wp2_with (go_at_call 50; refine (F3 _).mono ?_; rintro x w' ⟨rfl, rfl⟩)
          exact bodyPost_ret (v := openV (0, 0, ⟨#[]⟩, 2)) (by simp [results, Try.results51, go_sem, openV]) rfl ⟨by rw [G.out], Below.refl _ _⟩
        | some x3 =>
          obtain ⟨c, d⟩ := x3
          obtain ⟨e1, e2⟩ := fieldV_some h3
          obtain ⟨l3, l3'⟩ := field_le h3
          have FM := form_4 HD.out h1 h2 h3
          rw [e1, e2] at F3
          have DB := drop_body s d
          have DS : (bytesOf (s.data.toList.drop d)).size ≤ s.size := by
            show (s.data.toList.drop d).toArray.size ≤ s.size
            rw [List.size_toArray, List.length_drop, Array.length_toList]
            exact Nat.sub_le _ _
          generalize s.data.toList.drop d = bl at *
          have HF : Hid (formN s.data.toList = some (n, e, c, bl)) := FM
          clear e1 e2 h1 h2 h3 FM
          go_wp2_with fail
          refine (F3 _).mono ?_
          rintro x w3 ⟨rfl, rfl⟩
          clear F3
          go_wp2_with fail
          refine (l2Range_any _ _ _ _).mono ?_
          rintro x w4 ⟨rfl, rfl⟩
          clear DB
          cases hpg : pgOk n e (bytesOf bl)
          · have G : Hid (openR s = (0, 0, ⟨#[]⟩, 3)) := openR_range H0.out HF.out hpg
            clear hpg
            go_wp2
            exact bodyPost_ret (v := openV (0, 0, ⟨#[]⟩, 3)) (by simp [results, Try.results51, go_sem, openV]) rfl ⟨by rw [G.out], Below.refl _ _⟩
          have sh := headS_size (n := n) (e := e) (by omega) (by omega) (by omega) (by omega)
          have sz : (headS n e ++ bytesOf bl).size ≤ 1000000000042 := by rw [ByteArray.size_append]; omega
          obtain ⟨k1, k2, k3, k4, k5⟩ := pgOk_range hpg
          have sz2 : (headS n e ++ bytesOf bl).size ≤ 1000 := by rw [ByteArray.size_append]; omega
          have GS : Hid (crcS (headS n e ++ bytesOf bl) ≠ c → openR s = (0, 0, ⟨#[]⟩, 4)) := fun h => openR_sum H0.out HF.out hpg h
          have GI : Hid (crcS (headS n e ++ bytesOf bl) = c → openR s = (n, e, bytesOf bl, 0)) := fun h => openR_is H0.out HF.out hpg h
          clear hpg
          go_wp2_with fail
          refine (l2Head_any n e _ _ (by omega) (by omega) (by omega) (by omega)).mono ?_
          rintro x w5 ⟨rfl, hb5⟩
          go_wp2_with fail
          refine (crc_any _ _ (by omega)).mono ?_
          rintro x w6 ⟨rfl, rfl⟩
          by_cases hcc : crcS (headS n e ++ bytesOf bl) = c
          · have G : Hid (openR s = (n, e, bytesOf bl, 0)) := GI.out hcc
            rw [hcc]
            clear hcc GS GI
            go_wp2
            exact bodyPost_ret (v := openV (n, e, bytesOf bl, 0)) (by simp [results, Try.results51, go_sem, openV]) rfl ⟨by rw [G.out], hb5⟩
          · have G : Hid (openR s = (0, 0, ⟨#[]⟩, 4)) := GS.out hcc
            have hcc' : (crcS (headS n e ++ bytesOf bl) != c) = true := by simpa using hcc
            clear hcc GS GI
            go_wp2
            exact bodyPost_ret (v := openV (0, 0, ⟨#[]⟩, 4)) (by simp [results, Try.results51, go_sem, openV]) rfl ⟨by rw [G.out], hb5⟩
  · have h80i : ¬ (s[0].toNat : Int) = 80 := by omega
    have G : Hid (openR s = (0, 0, ⟨#[]⟩, 2)) := openR_form H0.out (form_no hp h80)
    go_enter Try.func51, Try.ntmps51
    go_wp2
    exact bodyPost_ret (v := openV (0, 0, ⟨#[]⟩, 2)) (by simp [results, Try.results51, go_sem, openV]) rfl ⟨by rw [G.out], Below.refl _ _⟩

end Go.Proofs.Ytddocjmjianajaa
