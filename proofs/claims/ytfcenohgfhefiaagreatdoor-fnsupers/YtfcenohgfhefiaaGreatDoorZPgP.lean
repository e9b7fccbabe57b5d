/- A page opens to what it was packed of; one changed byte of its body is told by the sum. -/
import Derived.Test.YtfcenohgfhefiaaGreatDoorZMB
import Derived.Test.YtfcenohgfhefiaaGreatDoorZMA
namespace Go.Proofs.YtfcenohgfhefiaaGreatDoor
open Go.RowKit

theorem crcBit_inj {c d : Nat} (hc : c < 4294967296) (hd : d < 4294967296) (h : crcBit c = crcBit d) : c = d := by
  have top : ∀ x : Nat, x < 4294967296 → (((x / 2) ^^^ 3988292384).testBit 31) = true := fun x hx => by
    rw [Nat.testBit_xor, Nat.testBit_lt_two_pow (show x / 2 < 2 ^ 31 by omega)]
    decide
  have low : ∀ x : Nat, x < 4294967296 → (x / 2).testBit 31 = false := fun x hx => Nat.testBit_lt_two_pow (show x / 2 < 2 ^ 31 by omega)
  unfold crcBit at h
  by_cases h1 : c % 2 = 1
  · by_cases h2 : d % 2 = 1
    · rw [if_pos h1, if_pos h2] at h
      have e : c / 2 = d / 2 := by
        have := congrArg (· ^^^ 3988292384) h
        simpa [Nat.xor_assoc] using this
      omega
    · rw [if_pos h1, if_neg h2] at h
      have t := top c hc
      rw [h, low d hd] at t
      cases t
  · by_cases h2 : d % 2 = 1
    · rw [if_neg h1, if_pos h2] at h
      have t := top d hd
      rw [← h, low c hc] at t
      cases t
    · rw [if_neg h1, if_neg h2] at h
      omega
theorem crcBits_inj {c d : Nat} (hc : c < 4294967296) (hd : d < 4294967296) : ∀ k, crcBits k c = crcBits k d → c = d
  | 0, h => h
  | k + 1, h => crcBits_inj hc hd k (crcBit_inj (crcBits_lt hc k) (crcBits_lt hd k) h)
theorem xor_left {a b c : Nat} (h : a ^^^ b = a ^^^ c) : b = c := by
  have := congrArg (a ^^^ ·) h
  simpa [← Nat.xor_assoc] using this
theorem crcByte_state {c d : Nat} (hc : c < 4294967296) (hd : d < 4294967296) (b : UInt8) (h : crcByte c b = crcByte d b) : c = d := by
  have e := crcBits_inj (crcXor_lt hc b) (crcXor_lt hd b) 8 h
  rw [Nat.xor_comm c, Nat.xor_comm d] at e
  exact xor_left e
theorem crcByte_byte {c : Nat} (hc : c < 4294967296) {a b : UInt8} (h : crcByte c a = crcByte c b) : a = b :=
  UInt8.toNat_inj.1 (xor_left (crcBits_inj (crcXor_lt hc a) (crcXor_lt hc b) 8 h))
theorem crcFold_inj (l : List UInt8) : ∀ {c d : Nat}, c < 4294967296 → d < 4294967296 → l.foldl crcByte c = l.foldl crcByte d → c = d := by
  induction l with
  | nil => intro c d _ _ h; exact h
  | cons x r ih => intro c d hc hd h; exact crcByte_state hc hd x (ih (crcByte_lt hc x) (crcByte_lt hd x) h)
/-- Two texts that differ in one byte alone have other sums. -/
theorem crcL_byte (l r : List UInt8) {a b : UInt8} (h : crcL (l ++ a :: r) = crcL (l ++ b :: r)) : a = b := by
  unfold crcL at h
  rw [List.foldl_append, List.foldl_append, List.foldl_cons, List.foldl_cons] at h
  have hl : l.foldl crcByte 4294967295 < 4294967296 := crcL_lt l
  exact crcByte_byte hl (crcFold_inj r (crcByte_lt hl a) (crcByte_lt hl b) h)
theorem crcS_set (g : ByteArray) (l : List UInt8) (i : Nat) (x : UInt8) (hi : i < l.length) (h : crcS (g ++ bytesOf (l.set i x)) = crcS (g ++ bytesOf l)) : x = l[i] := by
  unfold crcS at h
  have e : ∀ m : List UInt8, (g ++ bytesOf m).data.toList = g.data.toList ++ m := fun m => by
    unfold bytesOf
    rw [ByteArray.data_append, Array.toList_append]
  rw [e, e] at h
  have h' : crcL (g.data.toList ++ l.set i x) = crcL (g.data.toList ++ l) := by omega
  have s1 : l.set i x = l.take i ++ x :: l.drop (i + 1) := List.set_eq_take_append_cons_drop (l := l) (i := i) (a := x) |>.trans (if_pos hi)
  have s2 : l = l.take i ++ l[i] :: l.drop (i + 1) := by
    rw [← List.drop_eq_getElem_cons hi, List.take_append_drop]
  rw [s1] at h'
  conv at h' => rhs; rw [s2]
  rw [← List.append_assoc, ← List.append_assoc] at h'
  exact crcL_byte _ _ h'

theorem body_ten (v : Int) (h0 : 0 ≤ v) (h1 : v ≤ 4294967295) : (bodyN (itoaB v)).length ≤ 10 := by
  have E : (itoaB v).data.toList = Lib.itoa v := by unfold itoaB; simp
  have EL : Lib.itoa v = Lib.decDigits v.toNat := by unfold Lib.itoa; rw [if_neg (by omega)]
  have := dec_len 9 v.toNat (by omega)
  have hb : (bodyN (itoaB v)).length ≤ (Lib.itoa v).length := by
    unfold bodyN
    rw [E, List.length_drop]
    omega
  rw [EL] at hb
  omega
/-- The text of a page with some sum. -/
def pageT (n e c : Int) (b : ByteArray) : ByteArray := ⟨#[80]⟩ ++ headS n e ++ itoaB c ++ semi ++ b
theorem packS_page (n e : Int) (b : ByteArray) : packS n e b = pageT n e (crcS (headS n e ++ b)) b := rfl
theorem pageT_list (n e c : Int) (b : ByteArray) : (pageT n e c b).data.toList = 80 :: ((itoaB n).data.toList ++ 59 :: ((itoaB e).data.toList ++ 59 :: ((itoaB c).data.toList ++ 59 :: b.data.toList))) := by
  unfold pageT headS semi
  simp [ByteArray.data_append, Array.toList_append]
theorem open_pageT (n e c : Int) (b : ByteArray) (hp : pgOk n e b = true) (h0 : 0 ≤ c) (h1 : c ≤ 4294967295) : openR (pageT n e c b) = if crcS (headS n e ++ b) = c then (n, e, b, 0) else (0, 0, ⟨#[]⟩, 4) := by
  obtain ⟨r1, r2, r3, r4, r5⟩ := pgOk_range hp
  have hl := pageT_list n e c b
  have hne : pageT n e c b ≠ ⟨#[]⟩ := fun hc => by rw [hc] at hl; simp at hl
  have hb : bytesOf b.data.toList = b := by unfold bytesOf; apply ByteArray.ext; simp
  have hf : formN (pageT n e c b).data.toList = some (n, e, c, b.data.toList) := by
    rw [hl]
    unfold formN
    rw [List.head?_cons, if_pos rfl, List.drop_succ_cons, List.drop_zero, cut_itoa n _ 9 (body_small n r1 (by omega))]
    simp only
    rw [cut_itoa e _ 9 (body_small e r3 r4)]
    simp only
    rw [cut_itoa c _ 10 (body_ten c h0 h1)]
  by_cases hc : crcS (headS n e ++ b) = c
  · rw [if_pos hc, openR_is hne hf (by rw [hb]; exact hp) (by rw [hb]; exact hc), hb]
  · rw [if_neg hc, openR_sum hne hf (by rw [hb]; exact hp) (by rw [hb]; exact hc)]
theorem open_pack (n e : Int) (b : ByteArray) (hp : pgOk n e b = true) : openR (packS n e b) = (n, e, b, 0) := by
  obtain ⟨h0, h1⟩ := crcS_range (headS n e ++ b)
  rw [packS_page, open_pageT n e _ b hp h0 h1, if_pos rfl]
/-- One byte of the body changed: the text does not open. -/
theorem open_bent (n e : Int) (b : ByteArray) (hp : pgOk n e b = true) (i : Nat) (hi : i < b.data.toList.length) (x : UInt8) (hx : x ≠ b.data.toList[i]) : (openR (pageT n e (crcS (headS n e ++ b)) (bytesOf (b.data.toList.set i x)))).2.2.2 = 4 := by
  obtain ⟨h0, h1⟩ := crcS_range (headS n e ++ b)
  have hb : bytesOf b.data.toList = b := by unfold bytesOf; apply ByteArray.ext; simp
  have hsz : (bytesOf (b.data.toList.set i x)).size = b.size := by
    show (b.data.toList.set i x).toArray.size = b.size
    rw [List.size_toArray, List.length_set, Array.length_toList]
    rfl
  have hp' : pgOk n e (bytesOf (b.data.toList.set i x)) = true := by
    unfold pgOk at hp ⊢
    rw [hsz]
    exact hp
  rw [open_pageT n e _ _ hp' h0 h1, if_neg]
  intro hc
  conv at hc => rhs; rw [← hb]
  exact hx (crcS_set _ _ i x hi hc)

end Go.Proofs.YtfcenohgfhefiaaGreatDoor
