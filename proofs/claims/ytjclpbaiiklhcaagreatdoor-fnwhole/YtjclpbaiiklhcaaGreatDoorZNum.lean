/- l2Int of the model: the numeral of a number. -/
import Derived.Test.YtjclpbaiiklhcaaGreatDoorRows
import Derived.WalkKit
import Derived.WalkSpells
import Derived.WalkLawsBesides
import Derived.Lib.ItoaNum
namespace Go.Proofs.YtjclpbaiiklhcaaGreatDoor
open Go.RowKit

theorem conv_one (w : World) (c : Int) : (convert 22 9 (.slice (some ⟨w.heap.size, 0, none⟩) 1 1)).run Tryz.prog (w.alloc (.cells #[.int .u8 c] 5)) = .ok (.string ⟨#[UInt8.ofNat c.toNat]⟩) (w.alloc (.cells #[.int .u8 c] 5)) := by
  have hl := run_loadCells_list (P := Tryz.prog) (w.alloc (.cells #[.int .u8 c] 5)) ⟨w.heap.size, 0, none⟩ ([c].map (Value.int .u8)) (fun j v hj => by
    match j, hj with
    | 0, hj => simp at hj; subst hj; simp [Addr.add])
  rw [run_convert_bytes_string _ 22 9 5 _ _ _ (by kernel_rfl) (by kernel_rfl) (by kernel_rfl), run_bytesToString _ _ 1 1 [c] hl]
  rfl

/-- The digits of a number, none of nought. -/
def pre10 (m : Nat) : List UInt8 := if m = 0 then [] else Lib.decDigits m
theorem digit_eq (d : Nat) : UInt8.ofNat (48 + d) = 48 + UInt8.ofNat d := by rw [UInt8.ofNat_add]; rfl
theorem dec_step (m : Nat) : Lib.decDigits m = pre10 (m / 10) ++ [UInt8.ofNat (48 + m % 10)] := by
  rw [Lib.decDigits]
  unfold pre10
  by_cases h : m < 10
  · rw [dif_pos h, if_pos (by omega), Nat.mod_eq_of_lt h]
    rfl
  · rw [dif_neg h, if_neg (by omega)]
theorem pre_step (m : Nat) (h : m ≠ 0) : pre10 m = pre10 (m / 10) ++ [UInt8.ofNat (48 + m % 10)] := by
  rw [← dec_step]
  unfold pre10
  rw [if_neg h]

/-- What is left to write, and what is written. -/
def Writ (N m : Nat) (s : ByteArray) : Prop := (s = ⟨#[]⟩ ∧ m = N) ∨ (s ≠ ⟨#[]⟩ ∧ Lib.decDigits N = pre10 m ++ s.data.toList)
theorem Writ.step {N m : Nat} {s : ByteArray} (h : Writ N m s) (hm : s = ⟨#[]⟩ ∨ m ≠ 0) : Writ N (m / 10) (⟨#[48 + UInt8.ofNat (m % 10)]⟩ ++ s) := by
  rw [← digit_eq]
  refine .inr ⟨fun e => ?_, ?_⟩
  · have := congrArg ByteArray.size e
    rw [ByteArray.size_append] at this
    change 1 + s.size = 0 at this
    omega
  · rcases h with ⟨rfl, rfl⟩ | ⟨hs, h⟩
    · rw [dec_step]
      simp
    · rw [h, pre_step m (hm.resolve_left hs)]
      simp
theorem Writ.done {N : Nat} {s : ByteArray} (h : Writ N 0 s) (hs : s ≠ ⟨#[]⟩) : s = ⟨(Lib.decDigits N).toArray⟩ := by
  rcases h with ⟨e, _⟩ | ⟨_, h⟩
  · exact absurd e hs
  · rw [h]
    simp [pre10]

/-- One where the text is empty. -/
def isEmp : Value → Nat
  | .string s => if s.size = 0 then 1 else 0
  | _ => 0

theorem isEmp_cons (x : UInt8) (s : ByteArray) : isEmp (.string (⟨#[x]⟩ ++ s)) = 0 := by
  show (if (⟨#[x]⟩ ++ s : ByteArray).size = 0 then 1 else 0) = 0
  rw [if_neg]
  rw [ByteArray.size_append]
  show ¬ (1 + s.size = 0)
  omega
theorem isEmp_nil : isEmp (.string ⟨#[]⟩) = 1 := rfl
theorem size_cons (x : UInt8) (s : ByteArray) : (⟨#[x]⟩ ++ s : ByteArray).size = s.size + 1 := by
  rw [ByteArray.size_append]
  show 1 + s.size = _
  omega
theorem pow_step {m k : Nat} (h : m < 10 ^ (20 - k)) (hk : k ≤ 20) (hm : k = 0 ∨ m ≠ 0) : m / 10 < 10 ^ (20 - (k + 1)) ∧ k + 1 ≤ 20 := by
  by_cases h20 : k = 20
  · subst h20
    simp at h
    omega
  · have e : 20 - k = (20 - (k + 1)) + 1 := by omega
    rw [e, Nat.pow_succ] at h
    exact ⟨(Nat.div_lt_iff_lt_mul (by omega)).2 h, by omega⟩
theorem str_nil {s : ByteArray} (h : s ≠ ⟨#[]⟩) : ¬ s.toList = [] := fun e => h (by
  rw [ByteArray.toList_eq] at e
  exact ByteArray.ext (Array.toList_eq_nil_iff.1 e))
theorem size_pos {s : ByteArray} (h : s ≠ ⟨#[]⟩) : s.size ≠ 0 := fun e => h (ByteArray.ext (Array.size_eq_zero_iff.1 e))

set_option maxRecDepth 100000 in
set_option maxHeartbeats 1000000 in
theorem l2Int_pos (n : Nat) (w : World) (hn : n ≤ 9223372036854775807) :
    Calls Tryz.prog 46 #[.int .i64 n] w fun e w' => e = .returned (.string ⟨(Lib.itoa n).toArray⟩) ∧ Below w.heap.size w w' := by
  have hcv := conv_one
  have HN : Hid (Lib.itoa n = Lib.decDigits n) := (by unfold Lib.itoa; rw [if_neg (by omega)]; rfl : Lib.itoa n = Lib.decDigits n)
  have hneg : decide ((n : Int) < 0) = false := by simp
  go_enter Tryz.func46, Tryz.ntmps46
  go_wp2
  go_loopw [0, 3] (fun a o wr => ∃ (m : Nat) (s : ByteArray), a = .int .i64 m ∧ o = .string s ∧ m ≤ n ∧ s.size ≤ 20 ∧ Hid (m < 10 ^ (20 - s.size)) ∧ Hid (Writ n m s) ∧ Below w.heap.size w wr) (fun a o _ => (intOf a).toNat + isEmp o)
  case atStart =>
    exact ⟨n, ⟨#[]⟩, rfl, rfl, Nat.le_refl _, by show 0 ≤ 20; omega, (by show n < 10 ^ 20; omega : n < 10 ^ (20 - (⟨#[]⟩ : ByteArray).size)), .inl ⟨rfl, rfl⟩, Below.refl _ _⟩
  case round =>
    obtain ⟨m, s, rfl, rfl, hm, hs, hp, hd, hb⟩ := hrel
    by_cases hgo : s = ⟨#[]⟩ ∨ m ≠ 0
    · have HD : Hid (Writ n (m / 10) (⟨#[48 + UInt8.ofNat (m % 10)]⟩ ++ s)) := hd.out.step hgo
      obtain ⟨p1, p2⟩ := pow_step hp.out hs (hgo.imp (fun e => by rw [e]; rfl) id)
      have HP : Hid (m / 10 < 10 ^ (20 - (s.size + 1))) := p1
      have hq : decide ((m : Int) % 10 < 0) = false := by simp; omega
      clear p1
      by_cases hse : s = ⟨#[]⟩
      · subst hse
        go_wp2
        exact ⟨⟨m / 10, _, by go_num, rfl, by omega, by rw [size_cons]; exact p2, (by rw [size_cons]; exact HP.out : m / 10 < 10 ^ (20 - (⟨#[48 + UInt8.ofNat (m % 10)]⟩ ++ ⟨#[]⟩ : ByteArray).size)), HD, hb.alloc hb.size _⟩, by rw [isEmp_cons, isEmp_nil]; simp [intOf]; omega⟩
      · have hm0 := hgo.resolve_left hse
        have q1 := str_nil hse
        have q2 : s.toList.isEmpty = false := by simpa using q1
        have q3 : ((m : Int) != 0) = true := by simp; omega
        go_wp2
        exact ⟨⟨m / 10, _, by go_num, rfl, by omega, by rw [size_cons]; exact p2, (by rw [size_cons]; exact HP.out : m / 10 < 10 ^ (20 - (⟨#[48 + UInt8.ofNat (m % 10)]⟩ ++ s : ByteArray).size)), HD, hb.alloc hb.size _⟩, by rw [isEmp_cons]; simp [intOf]; omega⟩
    · have hse : s ≠ ⟨#[]⟩ := fun e => hgo (.inl e)
      obtain rfl : m = 0 := Decidable.byContradiction (fun e => hgo (.inr e))
      have q1 := str_nil hse
      have q2 : s.toList.isEmpty = false := by simpa using q1
      go_wp2
      go_ret
      refine ⟨congrArg (fun z => Ending.returned (.string z)) ?_, hb⟩
      rw [HN.out]
      exact hd.out.done hse

theorem tmod_neg (m : Nat) : Int.tmod (-(m : Int)) 10 = -((m % 10 : Nat) : Int) := by rw [Int.neg_tmod]; exact congrArg Neg.neg (Int.ofNat_tmod m 10).symm
theorem tdiv_neg (m : Nat) : Int.tdiv (-(m : Int)) 10 = -((m / 10 : Nat) : Int) := by rw [Int.neg_tdiv]; exact congrArg Neg.neg (Int.ofNat_tdiv m 10).symm

set_option maxRecDepth 100000 in
set_option maxHeartbeats 1000000 in
theorem l2Int_neg (n : Nat) (w : World) (hn0 : n ≠ 0) (hn : n ≤ 9223372036854775808) :
    Calls Tryz.prog 46 #[.int .i64 (-(n : Int))] w fun e w' => e = .returned (.string ⟨(Lib.itoa (-(n : Int))).toArray⟩) ∧ Below w.heap.size w w' := by
  have hcv := conv_one
  have HN : Hid (Lib.itoa (-(n : Int)) = 45 :: Lib.decDigits n) := (by unfold Lib.itoa; rw [if_pos (by omega), Int.natAbs_neg]; rfl : Lib.itoa (-(n : Int)) = 45 :: Lib.decDigits n)
  have hneg : decide (-(n : Int) < 0) = true := by simp; omega
  go_enter Tryz.func46, Tryz.ntmps46
  go_wp2
  go_loopw [0, 3] (fun a o wr => ∃ (m : Nat) (s : ByteArray), a = .int .i64 (-(m : Int)) ∧ o = .string s ∧ m ≤ n ∧ s.size ≤ 20 ∧ Hid (m < 10 ^ (20 - s.size)) ∧ Hid (Writ n m s) ∧ Below w.heap.size w wr) (fun a o _ => (-(intOf a)).toNat + isEmp o)
  case atStart =>
    exact ⟨n, ⟨#[]⟩, rfl, rfl, Nat.le_refl _, by show 0 ≤ 20; omega, (by show n < 10 ^ 20; omega : n < 10 ^ (20 - (⟨#[]⟩ : ByteArray).size)), .inl ⟨rfl, rfl⟩, Below.refl _ _⟩
  case round =>
    obtain ⟨m, s, rfl, rfl, hm, hs, hp, hd, hb⟩ := hrel
    by_cases hgo : s = ⟨#[]⟩ ∨ m ≠ 0
    · have HD : Hid (Writ n (m / 10) (⟨#[48 + UInt8.ofNat (m % 10)]⟩ ++ s)) := hd.out.step hgo
      obtain ⟨p1, p2⟩ := pow_step hp.out hs (hgo.imp (fun e => by rw [e]; rfl) id)
      have HP : Hid (m / 10 < 10 ^ (20 - (s.size + 1))) := p1
      have t1 := tmod_neg m
      have t2 := tdiv_neg m
      clear p1
      by_cases hse : s = ⟨#[]⟩
      · subst hse
        go_wp2
        · exact ⟨⟨m / 10, _, by go_num, rfl, by omega, by rw [size_cons]; exact p2, (by rw [size_cons]; exact HP.out : m / 10 < 10 ^ (20 - (⟨#[48 + UInt8.ofNat (m % 10)]⟩ ++ ⟨#[]⟩ : ByteArray).size)), HD, hb.alloc hb.size _⟩, by rw [isEmp_cons, isEmp_nil]; simp [intOf]; omega⟩
        · have z : m % 10 = 0 := by omega
          have zi : (m : Int) % 10 = 0 := by omega
          have HD' := HD.out
          rw [z] at HD'
          rw [zi]
          exact ⟨⟨m / 10, _, by go_num, rfl, by omega, by rw [size_cons]; exact p2, (by rw [size_cons]; exact HP.out : m / 10 < 10 ^ (20 - (⟨#[UInt8.ofNat ((48 : Int) + -0).toNat]⟩ ++ ⟨#[]⟩ : ByteArray).size)), HD', hb.alloc hb.size _⟩, by rw [isEmp_cons, isEmp_nil]; simp [intOf]; omega⟩
      · have hm0 := hgo.resolve_left hse
        have q1 := str_nil hse
        have q2 : s.toList.isEmpty = false := by simpa using q1
        have q3 : (-(m : Int) != 0) = true := by simp; omega
        go_wp2
        · exact ⟨⟨m / 10, _, by go_num, rfl, by omega, by rw [size_cons]; exact p2, (by rw [size_cons]; exact HP.out : m / 10 < 10 ^ (20 - (⟨#[48 + UInt8.ofNat (m % 10)]⟩ ++ s : ByteArray).size)), HD, hb.alloc hb.size _⟩, by rw [isEmp_cons]; simp [intOf]; omega⟩
        · have z : m % 10 = 0 := by omega
          have zi : (m : Int) % 10 = 0 := by omega
          have HD' := HD.out
          rw [z] at HD'
          rw [zi]
          exact ⟨⟨m / 10, _, by go_num, rfl, by omega, by rw [size_cons]; exact p2, (by rw [size_cons]; exact HP.out : m / 10 < 10 ^ (20 - (⟨#[UInt8.ofNat ((48 : Int) + -0).toNat]⟩ ++ s : ByteArray).size)), HD', hb.alloc hb.size _⟩, by rw [isEmp_cons]; simp [intOf]; omega⟩
    · have hse : s ≠ ⟨#[]⟩ := fun e => hgo (.inl e)
      obtain rfl : m = 0 := Decidable.byContradiction (fun e => hgo (.inr e))
      have q1 := str_nil hse
      have q2 : s.toList.isEmpty = false := by simpa using q1
      have e1 : (⟨#[45]⟩ ++ s : ByteArray) = ⟨(45 :: Lib.decDigits n).toArray⟩ := by
        rw [hd.out.done hse]
        apply ByteArray.ext
        simp
      have E1 : Hid ((⟨#[45]⟩ ++ s : ByteArray) = ⟨(45 :: Lib.decDigits n).toArray⟩) := e1
      clear e1
      go_wp2
      go_ret
      refine ⟨congrArg (fun z => Ending.returned (.string z)) ?_, hb⟩
      rw [HN.out]
      exact E1.out

theorem l2Int_any (n : Int) (w : World) (h0 : -9223372036854775808 ≤ n) (h1 : n ≤ 9223372036854775807) :
    Calls Tryz.prog 46 #[.int .i64 n] w fun e w' => e = .returned (.string ⟨(Lib.itoa n).toArray⟩) ∧ Below w.heap.size w w' := by
  by_cases h : 0 ≤ n
  · obtain ⟨k, rfl⟩ := Int.eq_ofNat_of_zero_le h
    exact l2Int_pos k w (by omega)
  · obtain ⟨k, hk⟩ := Int.eq_ofNat_of_zero_le (a := -n) (by omega)
    obtain rfl : n = -(k : Int) := by omega
    exact l2Int_neg k w (by omega) (by omega)

end Go.Proofs.YtjclpbaiiklhcaaGreatDoor
